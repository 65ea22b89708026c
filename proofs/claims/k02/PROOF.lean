import PyProof.Rows.All
import Wide.All
import OpenK.AllK
import Wide.FinOn
import PyProof.ListStr
import PyProof.SliceStr2
import KE.KRevSl
import HandS.ForMost
import HandS.Style
import HandS.Wide
import PyProof.ReprRoads
import HandS.Exc
import HandS.ExcOwn
import HandS.WordsExc
import HandS.ExcInit
import HandS.ExcField
import HandS.ExcIs
import HandS.IsInst
import HandS.Defaults
import HandS.Walk
import KE.KExcIs
import KE.RegKCallOwn
import PyProof.InstNe
import HandS.OwnEq
import HandS.FStr
import HandS.CallRecv
import PySem.Challenge.RW_growntexts_k02_settings_made
import PyProof.StrLawsRepr
set_option Elab.async false
set_option linter.all false
set_option maxRecDepth 100000
namespace My
open PySem PySem.Spec PyProof.Rows L2
section
variable {X : Cx}
/-- the signs of a text, each a text -/
def sgn (z : Str) : List V := z.cps.toList.map fun c => V.str ⟨#[c]⟩
theorem sgn_len (z : Str) : (sgn z).length = z.length := by
  unfold sgn
  rw [List.length_map, Array.length_toList]
  rfl
/-- list(z), z a text -/
theorem cr_listStr (hc : X.calm = true) : CallR X (.type "list") (fun xs H Q => ∃ z : Str, xs = [.str z] ∧ z.length ≤ sizeLine ∧ ∀ l, H l = none → Q (.ref l) (upd H l (.lst (sgn z)))) := by
  intro pins s σ H xs us Q I r h
  obtain ⟨z, rfl, hz, q⟩ := h
  obtain ⟨u, rfl, t, rfl⟩ := vals1 r
  refine PySem.call_list_str (I.ok.hd hc) z t (hn := hz) fun h' tk acc c' kp hg hi => ?_
  have e1 : acc.size = z.cps.size := hi.1
  have hv : Vals (sgn z) acc.toList := by
    have gen : ∀ (cs : List Nat) (us : List Value), us.length = cs.length → (∀ (j : Nat) (v : Value), us[j]? = some v → ∃ c w, cs[j]? = some c ∧ v = Value.str ⟨#[c]⟩ w) → Vals (cs.map fun c => V.str ⟨#[c]⟩) us := by
      intro cs
      induction cs with
      | nil =>
        intro us hl _
        cases us with
        | nil => exact .nil
        | cons a b => cases hl
      | cons c cs ih =>
        intro us hl hx
        cases us with
        | nil => cases hl
        | cons a b =>
          refine .cons ?_ (ih b (Nat.succ.inj hl) fun j v e => hx (j + 1) v (by simpa using e))
          obtain ⟨c', w, e2, e3⟩ := hx 0 a rfl
          have e4 : c = c' := Option.some.inj e2
          subst e4
          exact ⟨w, e3⟩
    refine gen z.cps.toList acc.toList (by rw [Array.length_toList, Array.length_toList, e1]) fun j v e => ?_
    obtain ⟨c, w, h1, h2⟩ := hi.2 j v (by simpa using e)
    exact ⟨c, w, by simpa using h1, h2⟩
  refine ⟨.ref s.heap.objs.size, _, I.laid (t' := tk) kp (Nat.le_refl _) (show ObjOk X.prog X.w _ h' _ (.lst (sgn z)) from ⟨by rw [sgn_len]; exact hz, acc.toList, c', hv, by simpa using hg⟩), rfl, q _ (I.hok.fresh (Nat.le_refl _))⟩
/-- repr(z), z a text -/
theorem cr_reprStr : CallR X (.builtin "repr") (fun xs H Q => ∃ z : Str, xs = [.str z] ∧ (reprText z).length ≤ sizeLine ∧ Q (.str (reprText z)) H) := by
  intro pins s σ H xs us Q I r h
  obtain ⟨z, rfl, hz, q⟩ := h
  obtain ⟨u, rfl, t, rfl⟩ := vals1 r
  exact PySem.P.repr_of_str (hsz := hz) ⟨.str _, H, I.tok _, ⟨_, rfl⟩, q⟩
/-- a text turned about -/
def revS (z : Str) : Str := ⟨z.cps.toList.reverse.toArray⟩
theorem back_ix (n : Nat) : Builtin.Str.strSliceIndices none none (-1) n = (List.range n).reverse := by
  unfold Builtin.Str.strSliceIndices
  show sliceRange ((n : Int) - 1) (-1) (-1) = _
  rw [PySem.W.krv_sliceRange, PySem.W.krv_range]
theorem back_all (z : Str) : ((List.range z.length).reverse.filterMap (z.cps[·]?)).toArray = z.cps.toList.reverse.toArray := by
  rw [List.filterMap_reverse]
  show ((List.range z.cps.size).filterMap (z.cps[·]?)).reverse.toArray = _
  rw [PySem.W.krv_all]
def tRevS (te : TE) (ts : TE) : TE := fun σ H Q => te σ H fun x H1 => ts σ H1 fun y H2 => y = .int (-1) ∧ ∃ z : Str, x = .str z ∧ z.length ≤ sizeLine ∧ Q (.str (revS z)) H2
/-- z[::k], k reckoned, -1 -/
theorem pe_revS {e st : Expr} {te ts : TE} {p3 pos : Pos} (he : PE X e te) (hs : PE X st ts)
    (hsub : ∀ v i, ∃ ops, subscripted (.Slice none none (some st) p3) false v i = operate ops (getItem v i) := by intro v i; exact ⟨_, rfl⟩) :
    PE X (.Subscript e (.Slice none none (some st) p3) pos) (tRevS te ts) := by
  refine ⟨fun pins s σ H Q I h => ?_⟩
  refine Subscript_ (thn (he.run pins s σ H _ I h) fun v s1 ⟨x, H1, I1, r1, q1⟩ => ?_)
  have hst : PO X (some st) (tPart ts) := po_some hs
  refine wpAny_Slice (thn (po_none.run pins s1 σ H1 (fun o H2 => o = none ∧ H2 = H1) I1 ⟨rfl, rfl⟩) fun vl s2 ⟨l, H2, I2, pl, el, e2⟩ => ?_)
  subst el e2
  refine thn (po_none.run pins s2 σ H2 (fun o H3 => o = none ∧ H3 = H2) I2 ⟨rfl, rfl⟩) fun vu s3 ⟨u, H3, I3, pu, eu, e3⟩ => ?_
  subst eu e3
  have exn : ∀ (y : V) (H4 : Hp), (y = .int (-1) ∧ ∃ z : Str, x = .str z ∧ z.length ≤ sizeLine ∧ Q (.str (revS z)) H4) → ∃ i, y = .int i ∧ (i = -1 ∧ ∃ z : Str, x = .str z ∧ z.length ≤ sizeLine ∧ Q (.str (revS z)) H4) := fun y H4 q => ⟨-1, q.1, rfl, q.2⟩
  rw [evalPart_some]
  refine thn (hs.run pins s3 σ H3 _ I3 q1) fun vs s4 ⟨y, H4, I4, ry, ey, z, ez, hz, q⟩ => ?_
  subst ey ez
  obtain ⟨t, rfl⟩ := r1
  obtain ⟨ty, rfl⟩ := ry
  obtain ⟨l', rfl, hl'⟩ := IsPart.raw pl
  obtain ⟨u', rfl, hu'⟩ := IsPart.raw pu
  have el : l' = none := by cases l' <;> first | rfl | cases hl'
  have eu : u' = none := by cases u' <;> first | rfl | cases hu'
  subst el eu
  have I5 : Inv X pins σ H4 { s4 with heap := s4.heap.push { cls := .type "slice", data := .fields #[partValue none, partValue none, .int (-1) ty] } } := I4.kept (t' := s4.toks) fun b ob q => Heap.get?_push_of_some _ q
  show wpAny (model X.prog X.w) X.A (subscriptTail e (.Slice none none (some st) p3) (.str z t) (.ref s4.heap.objs.size)) (EP X pins σ Q) X.xe { s4 with heap := s4.heap.push { cls := .type "slice", data := .fields #[partValue none, partValue none, .int (-1) ty] } }
  obtain ⟨ops, hops⟩ := hsub (.str z t) (.ref s4.heap.objs.size)
  refine tail_any (ops := ops) (typeIs_str _ _ _) (F.slot_str_getitem.lookup) ?_ hops
  refine wpAny_getItem_str_slice (l := none) (u := none) (st := some (-1, ty)) (Heap.IsSliceOf.new _ _ _ _) rfl ?_
  unfold sliceMade slicePicked
  show Made.post (if ((-1 : Int) == 1 && (Builtin.Str.strSliceIndices none none (-1) z.length).length == z.length) = true then Made.val (.str z t) else Made.str ⟨((Builtin.Str.strSliceIndices none none (-1) z.length).filterMap (z.cps[·]?)).toArray⟩) (EP X pins σ Q) _
  rw [if_neg (by simp), back_ix, back_all]
  have hl : (revS z).length ≤ sizeLine := by
    show (z.cps.toList.reverse.toArray).size ≤ sizeLine
    rw [List.size_toArray, List.length_reverse]
    exact hz
  exact ⟨hl, .str (revS z), H4, I5.tok _, ⟨_, rfl⟩, q⟩
end
end My
namespace My
open PySem PySem.Spec PyProof.Rows L2
/-- a new object changes nothing that stands -/
theorem same_upd {H : Hp} {p : Addr} {o : HO} (h : H p = none) : Same H (upd H p o) := fun b x e => by
  rw [upd_ne (ne_of_none e h)]
  exact e
theorem Same.tup {K : PySem.W.Frag} {H H' : Hp} {a : Addr} {xs : List V} (e : Same H H') (h : SqT K H a xs) : SqT K H' a xs := by
  rcases h with (h | ⟨o, h⟩) | h
  · exact .inl (.inl (e _ _ h))
  · exact .inl (.inr ⟨o, e _ _ h⟩)
  · exact .inr h
/-- the box of the draws: two whole numbers -/
def B2 (H : Hp) (b : Addr) : Prop := ∃ g r : Int, H b = some (.lst [.int g, .int r])
/-- behind some draws: all but the box stands as it stood, the box holds two whole numbers -/
structure Dr (b : Addr) (H H' : Hp) : Prop where
  kp : ∀ a o, a ≠ b → H a = some o → H' a = some o
  bx : B2 H' b
theorem Dr.trans {b : Addr} {H H1 H2 : Hp} (x : Dr b H H1) (y : Dr b H1 H2) : Dr b H H2 := ⟨fun a o n e => y.kp a o n (x.kp a o n e), y.bx⟩
theorem Dr.refl {b : Addr} {H : Hp} (x : B2 H b) : Dr b H H := ⟨fun _ _ _ e => e, x⟩
theorem Dr.same {b : Addr} {H H1 : Hp} (x : B2 H b) (y : Same H H1) : Dr b H H1 := ⟨fun a o _ e => y a o e, let ⟨g, r, e⟩ := x; ⟨g, r, y _ _ e⟩⟩
theorem Dr.put {b : Addr} {H : Hp} (g r : Int) : Dr b H (upd H b (.lst [.int g, .int r])) := ⟨fun a o n e => by rw [upd_ne n]; exact e, g, r, upd_same⟩
theorem Dr.free {b p : Addr} {H H' : Hp} (x : Dr b H H') (h : H' p = none) : H p = none := by
  cases q : H p with
  | none => rfl
  | some o =>
    by_cases e : p = b
    · obtain ⟨g, r, z⟩ := x.bx
      rw [e, z] at h
      cases h
    · rw [x.kp p o e q] at h
      cases h
theorem Dr.sqL {K : PySem.W.Frag} {b a : Addr} {H H' : Hp} {xs : List V} (x : Dr b H H') (n : a ≠ b) (h : SqL K H a xs) : SqL K H' a xs := by
  rcases h with (h | ⟨o, h⟩) | h
  · exact .inl (.inl (x.kp _ _ n h))
  · exact .inl (.inr ⟨o, x.kp _ _ n h⟩)
  · exact .inr h
theorem Dr.sqT {K : PySem.W.Frag} {b a : Addr} {H H' : Hp} {xs : List V} (x : Dr b H H') (n : a ≠ b) (h : SqT K H a xs) : SqT K H' a xs := by
  rcases h with (h | ⟨o, h⟩) | h
  · exact .inl (.inl (x.kp _ _ n h))
  · exact .inl (.inr ⟨o, x.kp _ _ n h⟩)
  · exact .inr h
/-- a new address is not the box -/
theorem B2.ne {b p : Addr} {H : Hp} (x : B2 H b) (h : H p = none) : p ≠ b := fun e => by
  obtain ⟨g, r, z⟩ := x
  rw [e, z] at h
  cases h
theorem str_ext {a b : Str} (h : a.cps.toList = b.cps.toList) : a = b := by
  cases a with | mk x => cases b with | mk y =>
  exact congrArg Str.mk (Array.toList_inj.mp h)
/-- joined without a sign between -/
theorem join_nil : ∀ ys : List Str, (Txt.join ⟨#[]⟩ ys).cps.toList = (ys.map fun y => y.cps.toList).flatten := by
  have gen : ∀ ys : List Str, (Str.join ⟨#[]⟩ ys).cps.toList = (ys.map fun y => y.cps.toList).flatten := by
    intro ys
    induction ys with
    | nil => rfl
    | cons y r ih =>
      cases r with
      | nil => show y.cps.toList = ([y.cps.toList]).flatten; simp
      | cons z r =>
        show ((y.cps ++ #[]) ++ (Str.join ⟨#[]⟩ (z :: r)).cps).toList = _
        rw [Array.toList_append, ih]
        simp
  intro ys
  rw [show Txt.join ⟨#[]⟩ ys = Str.join ⟨#[]⟩ ys from PySem.StrLaws.glued_eq_join _ ys]
  exact gen ys
theorem len_cps (z : Str) : z.cps.toList.length = z.length := by
  rw [Array.length_toList]
  rfl
theorem app_cps (x y : Str) : (x ++ y).cps.toList = x.cps.toList ++ y.cps.toList := by
  show (x.cps ++ y.cps).toList = _
  rw [Array.toList_append]
theorem rev_cps (x : Str) : (revS x).cps.toList = x.cps.toList.reverse := by
  show x.cps.toList.reverse.toArray.toList = _
  simp
theorem app_len (x y : Str) : (x ++ y).length = x.length + y.length := by
  rw [← len_cps, app_cps, List.length_append, len_cps, len_cps]
theorem rev_len (x : Str) : (revS x).length = x.length := by
  rw [← len_cps, rev_cps, List.length_reverse, len_cps]
theorem at_some {xs : List V} {k : Int} (h0 : 0 ≤ k) (h1 : k < xs.length) : ∃ v, atI xs k = some v ∧ v ∈ xs := by
  have hk : k.toNat < xs.length := by omega
  refine ⟨xs[k.toNat], ?_, List.getElem_mem hk⟩
  have e : atI xs ((k.toNat : Nat) : Int) = some xs[k.toNat] := atI_nat (List.getElem?_eq_getElem hk)
  rw [show ((k.toNat : Nat) : Int) = k by omega] at e
  exact e
theorem at_ints {ns : List Int} {k : Int} (h0 : 0 ≤ k) (h1 : k < ns.length) : ∃ n : Int, atI (ns.map V.int) k = some (V.int n) := by
  obtain ⟨v, e, m⟩ := at_some (xs := ns.map V.int) h0 (by rw [List.length_map]; exact h1)
  obtain ⟨n, _, rfl⟩ := List.mem_map.mp m
  exact ⟨n, e⟩
theorem le_line {n : Nat} (h : Nat.ble n 1000 = true) : n ≤ sizeLine := by
  rw [sizeLine_eq]
  exact Nat.le_trans (Nat.le_of_ble_eq_true h) (by decide)
theorem le_lineN {n : Nat} (h : n ≤ 1000000) : n ≤ sizeLine := by
  rw [sizeLine_eq]
  exact Nat.le_trans h (by decide)
/-- texts of one sign each, of the signs of z -/
def OneOf (z : Str) (y : Str) : Prop := ∃ c, c ∈ z.cps.toList ∧ y = ⟨#[c]⟩
theorem sgn_mem {z : Str} {v : V} (h : v ∈ sgn z) : ∃ y : Str, v = .str y ∧ OneOf z y := by
  obtain ⟨c, hc, rfl⟩ := List.mem_map.mp h
  exact ⟨⟨#[c]⟩, rfl, c, hc, rfl⟩
theorem ones_len {z : Str} : ∀ {ys : List Str}, (∀ y ∈ ys, OneOf z y) → (ys.map (·.length)).sum = ys.length
  | [], _ => rfl
  | y :: r, h => by
    obtain ⟨c, _, e⟩ := h y (List.mem_cons_self ..)
    have ih := ones_len (ys := r) fun x hx => h x (List.mem_cons_of_mem _ hx)
    rw [List.map_cons, List.sum_cons, ih, e, List.length_cons]
    show 1 + r.length = r.length + 1
    omega
theorem ones_join {z : Str} {ys : List Str} (h : ∀ y ∈ ys, OneOf z y) : (Txt.join ⟨#[]⟩ ys).length = ys.length ∧ ∀ c ∈ (Txt.join ⟨#[]⟩ ys).cps.toList, c ∈ z.cps.toList := by
  constructor
  · rw [← len_cps, join_nil, List.length_flatten, List.map_map]
    rw [← ones_len h]
    refine congrArg List.sum (List.map_congr_left fun y _ => ?_)
    exact len_cps y
  · intro c hc
    rw [join_nil] at hc
    obtain ⟨l, hl, hcl⟩ := List.mem_flatten.mp hc
    obtain ⟨y, hy, rfl⟩ := List.mem_map.mp hl
    obtain ⟨d, hd, e⟩ := h y hy
    rw [e] at hcl
    have : c = d := by simpa using hcl
    rw [this]
    exact hd
end My
namespace My
open PySem PySem.Spec PyProof.Rows L2
/-! A def's promise at ONE place of call (so that what runs around it is known), and the law's end by it; repr of data -/
section
variable {P : Program} {w : World} {K : PySem.W.Frag} {mg : Str → Option Value} {base : Heap}
def FnAt (P : Program) (w : World) (K : PySem.W.Frag) (mg : Str → Option Value) (base : Heap) (A : Around) (f : Addr) (fd : FuncData) (ps : List Str) (sp : Sp) : Prop :=
  ∀ (outer : List Env) (s : Shared) (H : Hp) (args : Args) (us : List Value) (vs : List V) (Q : VK) (E : XK),
    Env0 P w K mg base A outer s H → BindsTo s fd args (ps.zip us) → Vals vs us → sp vs H Q E →
    codeAny (model P w) A (.call (.ref f) args) (CR CX0 outer P w H s Q E) s
/-- by its body, at this place -/
theorem Fun.at {x qual : Str} {st : Stmt} {f : Addr} {fd : FuncData} {N ps : List Str} {k : Nat} {sp : Sp} {A : Around}
    (F : Fun K x qual st f fd) (S : FnScope N ps (defScope st)) (hr : Room (k + 1) A)
    (len : ∀ vs H Q E, sp vs H Q E → vs.length = ps.length)
    (body : ∀ (cdv : Value) (outer : List Env) (s : Shared) (H : Hp) (vs : List V) (Q : VK) (E : XK),
      Room k (A.deeper (envOfC qual (defScope st) s.heap.objs.size f cdv)) → sp vs H Q E →
      ∃ t, PSs (cxOf CX0 P w K mg base N qual (defScope st) f cdv A outer s H E).nox (defBody st) t ∧
        t { nx := fun _ H' => Q .non H', rt := Q } (start N vs) H) : FnAt P w K mg base A f fd ps sp := by
  intro outer s H args us vs Q E e0 hb rv hsp
  obtain ⟨oc, od, kV, doc, pm, an, cdv, ct, osl, e1, lk, hcd⟩ := F.ex
  subst e1
  have hl := len _ _ _ _ hsp
  have old : ∀ b o, base.get? b = some o → s.heap.get? b = some o := fun b o e => (e0.bs b o e).1
  have KX : K.In s.heap := e0.mod.kin.keeps old
  have par : ∀ y ∈ ps.zip us, (defScope st).names.lookup y.1 = some .local ∨
      ((defScope st).names.lookup y.1 = some .cell ∧ ((cellsFrom (s.heap.objs.size + 1) (defScope st).names []).lookup y.1).isSome = true) := by
    intro y hy
    have hm : y.1 ∈ ps := (List.of_mem_zip (show (y.1, y.2) ∈ ps.zip us from hy)).1
    cases S.par _ hm with
    | inl q => exact Or.inl q
    | inr q => exact Or.inr ⟨q, PySem.W.cellsFrom_some _ _ _ (Or.inl q)⟩
  refine codeAny_call_function hr.depth (KX _ _ lk) rfl S.co S.gen rfl
    (PySem.W.codeRec_of KX hcd) (hb _ _ _ _ ?_)
  refine wpAny_newFunctionEnv_cells S.kind par fun env he s1 xi => ?_
  subst he
  refine ⟨(e0.mod.nolimit.keeps old).keeps xi.toInCall.keep, codeAny_func ?_⟩
  obtain ⟨t, ht, hq⟩ := body cdv outer s H vs Q E (hr.deeper _) hsp
  have I0 := inv_start (CX := CX0) (E := E) S hr.hd e0 hl rv xi
  refine wpAny_mono (ht.nox.run [] s1 (start N vs) H _ I0 hq) ?_ (fun e s' hs => hs)
  intro fl s' hs
  match fl, hs with
  | .ret u, ⟨v, σ', H', J, ru, q⟩ => exact ⟨v, H', J.os, J.bare, J.base, J.hok, ru, q⟩
  | .next, ⟨σ', H', J, q⟩ => exact ⟨V.non, H', J.os, J.bare, J.base, J.hok, rfl, q⟩
  | .brk, ⟨_, _, _, q⟩ => exact q.elim
  | .cont, ⟨_, _, _, q⟩ => exact q.elim
end
/-- the law's call, from its promise at the law's own place -/
theorem law_at {P : Program} {w : World} {K : PySem.W.Frag} {mg mb : Str → Option Value} {fa a : Addr} {fd : FuncData} {x : Str} {sp : Sp}
    {s1 : Shared} {vs : List Value} {ns : List Int} (KX : K.In s1.heap) (hns : s1.heap.Ns mainGlobals mg) (hb : s1.heap.Ns builtinsNs mb)
    (hbb : ∀ x : Str, x ≠ "__name__" → mb x = bootBuiltins x) (lim : s1.heap.NoLimit) (hg : s1.gens = #[])
    (ha : s1.heap.get? a = some { cls := .type "list", data := .seq vs.toArray }) (hi : IntsAre vs ns) (hl : ns.length ≤ sizeLine)
    (F : ∀ base : Heap, K.In base → base.Ns mainGlobals mg → FnAt P w K mg base callerA fa fd [x] sp)
    (bind : ∀ (s : Shared) (u : Value), BindsTo s fd ⟨[u], []⟩ [(x, u)])
    (hsp : ∀ H : Hp, Only H → SqL K H a (ns.map V.int) → sp [.ref a] H (fun v _ => v = .bl true) fun _ _ _ => False) :
    codeAny (model P w) callerA (.call (.ref fa) ⟨[.ref a], []⟩)
      (fun r s' => r = .ok (.ret (.bool true)) ∧ OldK s1.heap s'.heap ∧ s'.os = s1.os ∧ AllBare s'.gens) s1 := by
  have rv : Vals (ns.map V.int) vs := vals_ints hi
  -- an abstract heap that tracks at most the script, locked
  suffices key : ∃ H : Hp, Only H ∧ SqL K H a (ns.map V.int) ∧ HOk P w H s1.heap ∧ (∀ b u, H b = some u → b = a ∧ K.lookup a = none) by
    obtain ⟨H, only, sq, ok, at1⟩ := key
    have untracked : ∀ {b : Addr} {o : Obj}, s1.heap.get? b = some o → (b = a → o ≠ { cls := .type "list", data := .seq vs.toArray }) → H b = none := by
      intro b o e ne
      match q : H b with
      | none => rfl
      | some u =>
        have e2 := (at1 b u q).1
        subst e2
        exact absurd (Option.some.inj (e.symm.trans ha)) (ne rfl)
    have nsB : ∀ {b : Addr} {m : Str → Option Value}, s1.heap.Ns b m → (hidT s1.heap H).Ns b m := by
      intro b m h
      obtain ⟨o, es, ep, e, d, r⟩ := h
      refine ⟨o, es, ep, hidT_get e (untracked e fun _ z => ?_), d, r⟩
      subst z
      exact nomatch d
    have KB : K.In (hidT s1.heap H) := by
      intro b o e
      refine hidT_get (KX b o e) ?_
      match q : H b with
      | none => rfl
      | some u =>
        obtain ⟨e1, e2⟩ := at1 b u q
        subst e1
        rw [e2] at e
        exact nomatch e
    have M : Mod K mg (hidT s1.heap H) := by
      obtain ⟨mc, l1, l2⟩ := lim
      exact ⟨KB, nsB hns, ⟨mb, nsB hb, hbb⟩, ⟨mc, nsB l1, l2⟩⟩
    have no : ∀ b : Addr, b ∉ ([] : List Addr) := fun b z => nomatch z
    have e0 : Env0 P w K mg (hidT s1.heap H) callerA [] s1 H :=
      ⟨rfl, M, fun b o e => of_hidT e, Nat.le_of_eq (hidT_size _ _), trivial, fun b z => (no b z).elim, ok, .of_eq hg⟩
    refine codeAny_mono (F _ KB (nsB hns) [] s1 H _ [.ref a] [.ref a] _ _ e0 (bind s1 (.ref a)) (.cons rfl .nil) (hsp H only sq)) ?_
    intro r s' h
    match r, h with
    | .ok (.ret u), ⟨v, H', os, bare, un, ok', ru, q⟩ =>
      have q' : v = V.bl true := q
      subst q'
      have ru' : u = Value.bool true := ru
      refine ⟨by rw [ru'], OldK.of_keep ?_, os, bare⟩
      intro b o e
      match q : H b with
      | none => exact un.keep b o e q (no b) (no b)
      | some u' =>
        cases only b with
        | inl z => rw [q] at z; exact nomatch z
        | inr z =>
          obtain ⟨ob, xs, z⟩ := z
          have k1 := (ok b _ z).1
          have k2 := (ok' b _ (un.frzs b ob _ z)).1
          rw [← Option.some.inj (k1.symm.trans e)]
          exact k2
  match hk : K.lookup a with
  | some o =>
    have e := Option.some.inj ((KX a o hk).symm.trans ha)
    subst e
    exact ⟨fun _ => none, fun _ => Or.inl rfl, Or.inr ⟨_, vs.toArray, _, hk, rfl, rfl, rfl, by rw [List.size_toArray, hi.length]; exact hl, by simpa using rv⟩,
      (fun b u z => nomatch (show (none : Option HO) = some u from z)), fun b u z => nomatch (show (none : Option HO) = some u from z)⟩
  | none =>
    let fz : HO := .frz { cls := .type "list", data := .seq vs.toArray } (.lst (ns.map V.int))
    have off : ∀ b u, (if b = a then some fz else none) = some u → b = a ∧ u = fz := by
      intro b u z
      by_cases q : b = a
      · rw [if_pos q] at z
        exact ⟨q, (Option.some.inj z).symm⟩
      · rw [if_neg q] at z
        exact nomatch z
    refine ⟨fun b => if b = a then some fz else none, ?_, Or.inl (Or.inr ⟨_, if_pos rfl⟩), ?_, fun b u z => ⟨(off b u z).1, rfl⟩⟩
    · intro b
      by_cases q : b = a
      · exact Or.inr ⟨_, _, if_pos q⟩
      · exact Or.inl (if_neg q)
    · intro b u z
      obtain ⟨e1, e2⟩ := off b u z
      subst e1 e2
      exact ⟨ha, by rw [List.length_map]; exact hl, vs, _, rv, ha⟩
/-- what k_head leaves, by it -/
theorem walk_at_ {l : PySem.W.OpenLaw} {n : Nat} {q : Program} {loose : List Str} {XP : (Str → Option Value) → Heap → Prop} {YP : World → Heap → Prop} {d : DefRec}
    {K : Params → PySem.W.Frag} {sp : World → Sp} {x : Str} (hn : l.most = some n) (hn2 : n ≤ sizeLine) (hdf : d.params.defaults = [])
    (hY : ∀ (w : World) (h : Heap), YP w h → (K w.params).In h)
    (F : ∀ (w : World) (mg : Str → Option Value) (fa : Addr) (h : Heap), (K w.params).In h → h.Ns mainGlobals mg → mg d.name = some (.ref fa) →
      ∃ fd : FuncData, (∀ (s : Shared) (u : Value), BindsTo s fd ⟨[u], []⟩ [(x, u)]) ∧
        ∀ base : Heap, (K w.params).In base → base.Ns mainGlobals mg → FnAt l.prog w (K w.params) mg base callerA fa fd [x] (sp w))
    (hsp : ∀ (w : World) (H : Hp) (a : Addr) (ns : List Int), ns.length ≤ n → Only H → SqL (K w.params) H a (ns.map V.int) →
      sp w [.ref a] H (fun v _ => v = .bl true) fun _ _ _ => False) :
    PySem.W.WalkO q loose XP YP l.row.toRowW d [] (fun f vs => PySem.call f vs) := by
  refine Att.attach_call hn hdf ?_
  intro w s0 s1 mg mb fa o pm cd doc a vs ns G Y ho hd hcd hmg hobj hints hlen hg
  obtain ⟨fd, hb, hF⟩ := F w mg fa _ (hY w _ Y) G.T.g hmg
  exact law_at (hY w _ Y) G.T.g G.T.b G.T.builtins G.T.nolimit hg hobj hints (Nat.le_trans hlen hn2) hF hb
    (fun H hO hS => hsp w H a ns hlen hO hS)
section
variable {X : Cx}
/-- repr(x), x data, where no repr is under way -/
theorem cr_reprD (hg : X.A.guards = some []) (hu : X.A.units + 66 < cLine) :
    CallR X (.builtin "repr") (fun xs H Q => ∃ (x : V) (d : PyData), xs = [x] ∧ Dp X.K H x d ∧ SeqAt.shaped d = true ∧ d.showable = true ∧ d.shown.length ≤ sizeLine ∧ Q (.str d.shown) H) := by
  intro pins s σ H xs us Q I r h
  obtain ⟨x, d, rfl, hd, sd, sh, hz, q⟩ := h
  obtain ⟨u, rfl, ru⟩ := vals1 r
  obtain ⟨as, rd⟩ := Dp.reads I d x u hd ru
  have hdp := SeqAt.depth_of_shaped sd
  have fin : ∀ (h' : Heap) (t : Tok) (k : Nat), (∀ b o, s.heap.get? b = some o → h'.get? b = some o) → EP X pins σ Q (.str d.shown t) { s with heap := h', toks := k } :=
    fun h' t k kp => ⟨.str d.shown, H, I.kept kp, ⟨t, rfl⟩, q⟩
  cases hd with
  | non => cases ru; exact PySem.P.repr_of_none (fin s.heap _ _ fun _ _ e => e)
  | bl b => cases ru; exact PySem.P.repr_of_bool (fin s.heap _ _ fun _ _ e => e)
  | int i =>
    obtain ⟨t, rfl⟩ := ru
    exact PySem.P.repr_of_int (of_decide_eq_true sh) (fin s.heap _ _ fun _ _ e => e)
  | str z =>
    obtain ⟨t, rfl⟩ := ru
    exact PySem.P.repr_of_str (hsz := hz) (fin s.heap _ _ fun _ _ e => e)
  | lst a b =>
    cases ru
    exact repr_of_reads' rd sh (PyData.noDict_hsm (PyData.hasDict_of_canLay _ (SeqAt.canLay_of_shaped sd))) hg (by omega) (fun _ _ e => e) (fun h' t k kp => fin h' t k kp) (hsz := hz)
  | tup a b =>
    cases ru
    exact repr_of_reads' rd sh (PyData.noDict_hsm (PyData.hasDict_of_canLay _ (SeqAt.canLay_of_shaped sd))) hg (by omega) (fun _ _ e => e) (fun h' t k kp => fin h' t k kp) (hsz := hz)
end
end My
namespace My
open PySem PySem.Spec PyProof.Rows L2
section
variable {X : Cx} {CX : CXT} {k : Nat} {f C : Addr} {fd : FuncData} {ps : List Str} {sp : Sp} {x : Str} {p pos : Pos} {e : Expr} {es : List Expr} {t : TA} {ds : List Value} {dvs : List V}
/-- C(e, ..) where what the maker raises is wished for at the caller's slots -/
def tMakeS (C : Addr) (sp : Sp) (dvs : List V) (E : L2.St → XK) (t : TA) : TE := fun σ H Q => t σ H fun vs H1 =>
  ∀ x dx, H1 x = none → H1 dx = none → dx ≠ x → sp (.ref x :: (vs ++ dvs)) (upd (upd H1 dx (.own x)) x (.ins C dx [])) (fun v H2 => v = .non ∧ Q (.ref x) H2) (E σ)
theorem pe_makeS {E : L2.St → XK} (M : Mk X.K C f) (F : FnOk X.prog X.w X.K X.mg X.base CX k f fd ps sp) (hr : Room (k + 1) X.A) (hg : Gl X x) (hm : X.mg x = some (.ref C))
    (hb : Binds X.K fd ps ds) (hd : Vals dvs ds) (hx : ∀ σ, PassesAt CX X σ (E σ)) (ha : PA X (e :: es) t) (hdb : (x == ("__debug__" : Str)) = false := by decide)
    (he : starEach (e :: es) X.env = (false, eval e X.env) :: starEach es X.env := by rfl) (hpl : (backTo pos (starEach es X.env)).any (·.1) = false := by rfl) :
    PE X (.Call (.Name x p) (e :: es) [] pos) (tMakeS C sp dvs E t) := by
  refine ⟨fun pins s0 σ H0 Q I0 h => wpAny_Call_Name_kw (ld_glob I0 hg hm ?_ hdb)⟩
  refine PySem.W.callWith_K (h₀ := X.base) I0.ok.mod.kin M.kp (thn (ha.run pos pins s0 σ H0 _ I0 h) ?_) he hpl
  intro us s z
  obtain ⟨vs, H, I, r, q⟩ := z
  refine ⟨I.kIn, ?_⟩
  have new : ∀ n, s.heap.objs.size ≤ n → H n = none := fun n hn => I.hok.fresh hn
  have hq := q (s.heap.objs.size + 1) s.heap.objs.size (new _ (Nat.le_succ _)) (new _ (Nat.le_refl _)) (Nat.ne_of_lt (Nat.lt_succ_self _))
  have J := Inv.made (C := C) I
  have rr : Vals (V.ref (s.heap.objs.size + 1) :: (vs ++ dvs)) (Value.ref (s.heap.objs.size + 1) :: (us ++ ds)) := .cons rfl (r.append hd)
  have hl : ((Value.ref (s.heap.objs.size + 1) :: us) ++ ds).length = ps.length := (F.len _ _ _ _ hq ▸ rr.length).symm
  refine wpAny_call (make_map (f := f) I.kIn M.makes M.init (beq_iff_eq.mp M.fn) (codeAny_mono
    (F.run _ X.stack _ _ ⟨Value.ref (s.heap.objs.size + 1) :: us, []⟩ _ _ _ (E σ) (hr.make C us []) (J.env0.make C us []) (hb _ (Value.ref (s.heap.objs.size + 1) :: us) J.kIn hl) rr hq) ?_))
  intro res s' z
  match res, z with
  | .error er, z => exact hx σ pins _ _ er s' J z
  | .ok (.ret u), z =>
    obtain ⟨v, H', J', rv, z⟩ := J.after z
    obtain ⟨ev, z⟩ := z
    subst ev
    exact ⟨rv, V.ref (s.heap.objs.size + 1), H', J', rfl, z⟩
end
def Abc (y : Str) : Prop := ∀ c ∈ y.cps.toList, c < 128
/-! any values, as far as their types go -/
inductive Tg where
  | non | bl | int | str | lst | tup
  deriving DecidableEq
def Tg.is : Tg → String → Bool
  | .bl, "bool" => true
  | .bl, "int" => true
  | .int, "int" => true
  | .str, "str" => true
  | .lst, "list" => true
  | .tup, "tuple" => true
  | _, _ => false
inductive Av (H : Hp) : V → Tg → Prop
  | non : Av H .non .non
  | bl (b : Bool) : Av H (.bl b) .bl
  | int (i : Int) : Av H (.int i) .int
  | str (z : Str) (h : Abc z ∧ z.length ≤ 1000) : Av H (.str z) .str
  | lst {a : Addr} {xs : List V} (e : H a = some (.lst xs)) : Av H (.ref a) .lst
  | tup {a : Addr} {xs : List V} (e : H a = some (.tup xs)) : Av H (.ref a) .tup
theorem Av.same {H H' : Hp} {x : V} {t : Tg} (h : Av H x t) (s : Same H H') : Av H' x t := by
  cases h with
  | non => exact .non
  | bl b => exact .bl b
  | int i => exact .int i
  | str z h => exact .str z h
  | lst e => exact .lst (s _ _ e)
  | tup e => exact .tup (s _ _ e)
theorem Av.kit {K : PySem.W.Frag} {H : Hp} {x : V} {t : Tg} (h : Av H x t) {T : String} (hT : T = "int" ∨ T = "bool" ∨ T = "str" ∨ T = "list" ∨ T = "tuple") :
    ∃ ty : Value, TyX K H x ty ∧ PySem.W.kitOne K ty (.type T) = some (t.is T) := by
  cases h with
  | non => refine ⟨_, .base .non, ?_⟩; rcases hT with rfl | rfl | rfl | rfl | rfl <;> exact kit_ty (by decide +kernel)
  | bl b => refine ⟨_, .base (.bl b), ?_⟩; rcases hT with rfl | rfl | rfl | rfl | rfl <;> exact kit_ty (by decide +kernel)
  | int i => refine ⟨_, .base (.int i), ?_⟩; rcases hT with rfl | rfl | rfl | rfl | rfl <;> exact kit_ty (by decide +kernel)
  | str z h => refine ⟨_, .base (.str z), ?_⟩; rcases hT with rfl | rfl | rfl | rfl | rfl <;> exact kit_ty (by decide +kernel)
  | lst e => refine ⟨_, .base (.lst e), ?_⟩; rcases hT with rfl | rfl | rfl | rfl | rfl <;> exact kit_ty (by decide +kernel)
  | tup e => refine ⟨_, .base (.tup e), ?_⟩; rcases hT with rfl | rfl | rfl | rfl | rfl <;> exact kit_ty (by decide +kernel)
/-- isinstance(x, T), x any value -/
def rIsA : List V → Hp → VK → Prop := fun xs H Q => ∃ (x : V) (T : String) (t : Tg), xs = [x, .ty T] ∧ (T = "int" ∨ T = "bool" ∨ T = "str" ∨ T = "list" ∨ T = "tuple") ∧ Av H x t ∧ Q (.bl (t.is T)) H
theorem cr_isA {X : Cx} : CallR X (.builtin "isinstance") rIsA := by
  intro pins s σ H xs us Q I r h
  obtain ⟨x, T, t, rfl, hT, av, q⟩ := h
  obtain ⟨ty, h1, h2⟩ := av.kit (K := X.K) hT
  exact call_isi pins s σ H _ us Q I r ⟨x, .ty T, ty, .type T, t.is T, rfl, .ty T, h1, h2, q⟩
/-- isinstance(e, c), e the caught exception, with its own dict -/
def rIsX (K : PySem.W.Frag) (a : Addr) (cls : Value) (d : Option Addr) : List V → Hp → VK → Prop := fun xs H Q => ∃ (D dd : Addr) (fs : List (Str × V)) (c : V) (cv : Value) (b : Bool),
  xs = [.ref a, c] ∧ cls = .ref D ∧ d = some dd ∧ H dd = some (.xd fs) ∧ ExcC K D ∧ (∀ u, RelV c u → u = cv) ∧ PySem.W.kitOne K (.ref D) cv = some b ∧ Q (.bl b) H
theorem cr_isX {X : Cx} {a : Addr} {oe : Obj} {cls : Value} {d : Option Addr} {pn : List (Addr × Obj)} (hz : Zc cls d oe) (hf : ∃ vs, oe.data = .fields vs) :
    CallR (X.suite a ((a, oe) :: pn)) (.builtin "isinstance") (rIsX X.K a cls d) := by
  intro pins s σ H xs us Q I r h
  obtain ⟨D, dd, fs, c, cv, b, rfl, ec, ed, ea, C, hcv, e, q⟩ := h
  subst ec ed
  cases r with
  | cons rx rr => cases rr with
    | cons rt rr =>
      cases rr
      cases rx
      have ev := hcv _ rt
      subst ev
      obtain ⟨hget, _⟩ := I.pin (a, oe) (List.mem_append.mpr (.inl List.mem_cons_self))
      obtain ⟨vs, hv⟩ := hf
      have hx : ObjOk X.prog X.w H s.heap dd (.xd fs) := I.hok dd _ ea
      obtain ⟨mA, hns, hr⟩ := hx
      obtain ⟨od, ho, hl⟩ := lookIn_ns hns
      have J : PySem.W.InstAt s.heap a oe D (some od) := ⟨hget, hz.1, by unfold PySem.W.notCls; rw [hv] <;> rfl, by rw [hz.2]; exact ho⟩
      have cl : (PySem.W.clsIn X.K D).isSome = true := by
        obtain ⟨cd, hc, _⟩ := PySem.W.any_some C.hd
        rw [hc]
        rfl
      exact PySem.W.kia_one (PySem.W.kitx_exc cl C.hg C.hk C.hs C.ha C.hn C.ht C.hm) I.kIn J e (fun z => nomatch z) fun tk => ⟨.bl b, H, I.kept (t' := tk) fun _ _ z => z, rfl, q⟩
/-- all(xs), any(xs), of bools: as the library has them. The words of a text's signs -/
def wordB (z : Str) : Bool := z.cps.toList.all fun c => decide (97 ≤ c ∧ c ≤ 122)
def isNum : V → Bool
  | .int i => decide (0 ≤ i)
  | _ => false
def isWord : V → Bool
  | .str z => wordB z
  | _ => false
/-- 'a' <= one sign <= 'z' by the texts' order -/
theorem sign_le (lo c : Nat) : (!decide ((⟨#[c]⟩ : Str).cps.toList < [lo])) = decide (lo ≤ c) := by
  have e : ((⟨#[c]⟩ : Str).cps.toList < [lo]) ↔ c < lo := by
    show ([c] < [lo]) ↔ _
    rw [List.cons_lt_cons_iff]
    exact ⟨fun h => h.elim id fun h => absurd h.2 (List.lt_irrefl []), Or.inl⟩
  by_cases h : lo ≤ c
  · rw [decide_eq_true h, decide_eq_false (fun z => by have := e.mp z; omega)]
    rfl
  · rw [decide_eq_false h, decide_eq_true (e.mpr (by omega))]
    rfl
theorem sign_ge (hi c : Nat) : (!decide ([hi] < (⟨#[c]⟩ : Str).cps.toList)) = decide (c ≤ hi) := by
  have e : ([hi] < (⟨#[c]⟩ : Str).cps.toList) ↔ hi < c := by
    show ([hi] < [c]) ↔ _
    rw [List.cons_lt_cons_iff]
    exact ⟨fun h => h.elim id fun h => absurd h.2 (List.lt_irrefl []), Or.inl⟩
  by_cases h : c ≤ hi
  · rw [decide_eq_true h, decide_eq_false (fun z => by have := e.mp z; omega)]
    rfl
  · rw [decide_eq_false h, decide_eq_true (e.mpr (by omega))]
    rfl
end My
/-! own == and != and str() of an own class, told by its own defs -/
namespace My
open PySem PySem.Spec PyProof.Rows L2
section
variable {X : Cx} {pins : List (Addr × Obj)} {σ : L2.St} {H : Hp} {s : Shared} {k : Nat} {f C : Addr} {fd : FuncData} {ps : List Str} {sp : Sp}
/-- a def that lets nothing out, called somewhere below this body -/
theorem run_in {A' : Around} {E : XK} {Q : VK} {us : List Value} {vs : List V} (fr : A'.frames = X.A.frames) (F : FnOk X.prog X.w X.K X.mg X.base CX0 k f fd ps sp) (hr : Room k A')
    (hb : Binds X.K fd ps []) (I : Inv X pins σ H s) (r : Vals vs us) (h : sp vs H Q E) : wpAny (model X.prog X.w) A' (call (.ref f) us) (EP X pins σ Q) X.xe s := by
  have e := I.env0
  have e0 : Env0 X.prog X.w X.K X.mg X.base A' X.stack s H := ⟨fr.trans e.frames, e.mod, e.bs, e.bsz, e.funs, e.frf, e.hok, e.bare⟩
  have hl : us.length = ps.length := r.length ▸ F.len _ _ _ _ h
  have b := hb s us I.kIn (by rw [List.append_nil]; exact hl)
  rw [List.append_nil] at b
  refine wpAny_call (codeAny_mono (F.run A' X.stack s H _ us vs Q E hr e0 b r h) ?_)
  intro res s' z
  match res, z with
  | .error _, z => exact False.elim z
  | .ok (.ret u), z => exact I.after z
/-- an own instance, as the library's rules want it -/
theorem inst_of {a dx : Addr} {fs : List (Str × V)} (I : Inv X pins σ H s) (ha : H a = some (.ins C dx fs)) : ∃ ox od, PySem.W.InstAt s.heap a ox C od := by
  obtain ⟨mA, J, _⟩ := ins_get I.hok ha
  obtain ⟨od, J, _⟩ := J.look
  exact ⟨_, _, J⟩
/-- str(x) by the own __str__ -/
theorem cr_strOwn (F : FnOk X.prog X.w X.K X.mg X.base CX0 k f fd ps sp) (hr : Room (k + 2) X.A) (hb : Binds X.K fd ps [])
    (hs : PySem.W.findIn X.K (.ref C) "__str__" = some (some (.ref f))) (hf : PySem.W.isFn X.K (.ref f) = true) :
    CallR X (.type "str") (fun xs H Q => ∃ a dx fs, xs = [.ref a] ∧ H a = some (.ins C dx fs) ∧ sp [.ref a] H (fun v H' => ∃ z : Str, v = .str z ∧ Q (.str z) H') (fun _ _ _ => False)) := by
  intro pins s σ H xs us Q I r h
  obtain ⟨a, dx, fs, rfl, ha, q⟩ := h
  obtain ⟨u, rfl, ru⟩ := vals1 r
  cases ru
  obtain ⟨ox, od, J⟩ := inst_of I ha
  have r2 := hr.in1.in1
  refine PySem.W.kso_call r2.units0 I.kIn J hs hf (wpAny_mono (run_in rfl F r2 hb I (.cons (show RelV (V.ref a) (Value.ref a) from rfl) .nil) q) ?_ fun _ _ e => e)
  intro v s' z
  obtain ⟨y, H', I', ry, zz, ey, q'⟩ := z
  subst ey
  obtain ⟨t, rfl⟩ := ry
  exact ⟨V.str zz, H', I', ⟨t, rfl⟩, q'⟩
/-- what such a comparison gives back -/
abbrev BoolK (Q : VK) : VK := fun v H' => ∃ b : Bool, v = .bl b ∧ Q (.bl b) H'
/-- x == y, both of the class, by the own __eq__ -/
def rEqO (C : Addr) (sp : Sp) : R2 := fun x y H Q => ∃ a dx fs b dy gs, x = .ref a ∧ y = .ref b ∧ H a = some (.ins C dx fs) ∧ H b = some (.ins C dy gs) ∧ sp [.ref a, .ref b] H (BoolK Q) (fun _ _ _ => False)
theorem op_eqO (F : FnOk X.prog X.w X.K X.mg X.base CX0 k f fd ps sp) (hr : Room k X.A) (hb : Binds X.K fd ps [])
    (hs : PySem.W.findIn X.K (.ref C) "__eq__" = some (some (.ref f))) (hf : PySem.W.isFn X.K (.ref f) = true) : OpR X (compareOp .Eq) (rEqO C sp) := by
  intro pins s σ H x y v u Q I rx ry h
  obtain ⟨a, dx, fs, b, dy, gs, rfl, rfl, ha, hb', q⟩ := h
  cases rx
  cases ry
  obtain ⟨ox, od, J⟩ := inst_of I ha
  obtain ⟨oy, oe, J'⟩ := inst_of I hb'
  obtain ⟨m, hF⟩ := I.fr
  show wpAny _ _ (richCompare .Eq (.ref a) (.ref b)) _ _ _
  refine PySem.W.cmp_K (op := .Eq) (tb := .ref C) hr.units0 hF I.ok.mod.kin J J'.type (by simp [PySem.W.notFirst]) hs hf (wpAny_mono (run_in rfl F hr hb I (.cons (show RelV (V.ref a) (Value.ref a) from rfl) (.cons (show RelV (V.ref b) (Value.ref b) from rfl) .nil)) q) ?_ fun _ _ e => e)
  intro v s' z
  obtain ⟨y, H', I', ry, bb, ey, q'⟩ := z
  subst ey
  cases ry
  exact ⟨V.bl bb, H', I', rfl, q'⟩
/-- a name of the class that is a built-in method -/
theorem if_bound {M : Model} {A : Around} {E : Value → Shared → Prop} {K : PySem.W.Frag} {x : Addr} {ox : Obj} {od : Option Obj} {name : Str} {id : String} {args : List Value} {Q : Option Value → Shared → Prop}
    (KX : K.In s.heap) (I : PySem.W.InstAt s.heap x ox C od) (hs : PySem.W.findIn K (.ref C) name = some (some (.builtin id))) (hb : ∀ self, bindSpecial (.builtin id) self = pure (.builtin id, [self]))
    (h : wpAny M A (call (.builtin id) (.ref x :: args)) (fun v => Q (some v)) E s) : wpAny M A (callSpecialIfBound? (.ref x) name args) Q E s := by
  have fin : wpAny M A (call (.builtin id) ([.ref x] ++ args) >>= fun v => pure (some v)) Q E s := wpAny_bind (wpAny_mono h (fun v s' z => wpAny_pure z) fun _ _ z => z)
  simp only [callSpecialIfBound?, bindSpecialIfBound?]
  refine wpAny_holding (wpAny_bind (wpAny_bind (wpAny_bind (I.type.here ((PySem.W.looks_findIn KX hs).here ?_)))))
  refine wpAny_bind (wpAny_askSetting (wpAny_ite ?_))
  rw [hb]
  split
  · exact wpAny_bind (wpAny_pure (wpAny_pure fin))
  · exact wpAny_tryCatch (wpAny_bind (wpAny_pure (wpAny_pure fin)))
/-- a comparison whose left side answers -/
theorem rc_left {prog : Program} {w : World} {A : Around} {E : Value → Shared → Prop} {x y : Addr} {ox oy : Obj} {od oe : Option Obj} {op : CmpOp} {Q : Value → Shared → Prop} (hu : A.units < cLine)
    (I : PySem.W.InstAt s.heap x ox C od) (J : PySem.W.InstAt s.heap y oy C oe)
    (one : wpAny (model prog w) A (tryCompare (.ref x) (cmpInfo op).2.1 (.ref y)) (fun r s' => ∃ v, r = some v ∧ Q v s') E s) : wpAny (model prog w) A (richCompare op (.ref x) (.ref y)) Q E s := by
  unfold richCompare
  simp only [oneThing_ref]
  refine wpAny_holding (wpAny_bind (wpAny_cRoomFor hu (wpAny_bind (I.type.here (wpAny_bind (J.type.here ?_))))))
  rw [if_neg (by simp)]
  refine wpAny_bind (wpAny_pure ?_)
  simp only [Bool.false_eq_true, if_false]
  refine wpAny_bind (wpAny_mono one (fun r s' z => ?_) fun _ _ e => e)
  obtain ⟨v, rfl, q⟩ := z
  exact wpAny_pure q
/-- x != y, both of the class, which has its own __eq__ and no __ne__ of its own -/
theorem op_neO (F : FnOk X.prog X.w X.K X.mg X.base CX0 k f fd ps sp) (hr : Room (k + 1) X.A) (hb : Binds X.K fd ps [])
    (hs : PySem.W.findIn X.K (.ref C) "__eq__" = some (some (.ref f))) (hf : PySem.W.isFn X.K (.ref f) = true)
    (hn : PySem.W.findIn X.K (.ref C) "__ne__" = some (some (.builtin "object.__ne__"))) (hm : PySem.W.mroIn X.K C (.type "object") = some true) :
    OpR X (compareOp .NotEq) (fun x y H Q => rEqO C sp x y H (fun v H' => ∃ b : Bool, v = .bl b ∧ Q (.bl (!b)) H')) := by
  intro pins s σ H x y v u Q I rx ry h
  obtain ⟨a, dx, fs, b, dy, gs, rfl, rfl, ha, hb', q⟩ := h
  cases rx
  cases ry
  obtain ⟨ox, od, J⟩ := inst_of I ha
  obtain ⟨oy, oe, J'⟩ := inst_of I hb'
  show wpAny _ _ (richCompare .NotEq (.ref a) (.ref b)) _ _ _
  refine rc_left hr.units0 J J' ?_
  show wpAny _ _ (tryCompare (.ref a) "__ne__" (.ref b)) _ _ _
  unfold tryCompare
  refine wpAny_bind (if_bound I.kIn J hn PySem.F.slot_object_ne.bind ?_)
  refine wpAny_call (codeAny_call_builtin PySem.F.slot_object_ne.plain PySem.F.cmpEntry_ne ?_)
  refine PySem.W.check_slot (i := "object.__ne__") (owner := "object") (n := "__ne__") (by decide +kernel) (by decide +kernel) (J.type.andThen (PySem.W.looks_mroIn I.kIn hm)) (PySem.F.cmpArgs_ne _ _) ?_
  unfold Builtin.«object.__ne__»
  refine wpAny_bind (m := slotArgs "__ne__" 1 _) (wpAny_pure ?_)
  refine wpAny_bind (m := cRoomFor _ _) (wpAny_cRoomFor hr.in1.units0 ?_)
  refine wpAny_bind (m := callSpecialIfBound? (.ref a) (Str.ofString "__eq__") [.ref b]) (PySem.W.ifBound_K I.kIn J hs hf (wpAny_mono (run_in (A' := X.A.in1) rfl F hr.in1 hb I (.cons (show RelV (V.ref a) (Value.ref a) from rfl) (.cons (show RelV (V.ref b) (Value.ref b) from rfl) .nil)) q) ?_ fun _ _ e => e))
  intro v s' z
  obtain ⟨y, H', I', ry, bb, ey, q'⟩ := z
  subst ey
  cases ry
  obtain ⟨b2, e2, q'⟩ := q'
  cases e2
  refine wpAny_bind (wpAny_truthy_bool ?_)
  exact wpAny_pure (wpAny_pure ⟨_, rfl, V.bl (!bb), H', I', rfl, q'⟩)
end
end My
/-! an own instance sought in a tuple of built-in values: its own == is asked from the right -/
namespace My
open PySem PySem.Spec PyProof.Rows L2
open PySem.SeqAt AutoSeq1 MeetsSeq MeetsSeq2 MeetsSeq3 SeqRoads2
theorem str_eq_inst (z : Str) (t : Tok) (x C dx : Addr) :
    Meets (Builtin.«str.__eq__» ⟨[.str z t, .ref x], []⟩) (fun _ R s => s.heap.get? x = some (PySem.W.instObj C dx) ∧ R (.ok (.ret .notImplemented)) s) :=
  .of_wp fun prog w A R s h => by
    obtain ⟨hp, g, d, tk, os⟩ := s
    obtain ⟨hl, h⟩ := h
    unfold PySem.W.instObj at hl
    wp_walk using wpAny_loadPart' hl, wpAny_load hl
    exact ⟨_, rfl, h⟩
theorem tup_eq_inst (l x C dx : Addr) :
    Meets (Builtin.«tuple.__eq__» ⟨[.ref l, .ref x], []⟩) (fun _ R s => s.heap.get? x = some (PySem.W.instObj C dx) ∧ (∀ M : Model, PySem.W.Looks M s.heap (isSubtype (.ref C) (.type "tuple")) false) ∧ R (.ok (.ret .notImplemented)) s) :=
  .of_wp fun prog w A R s h => by
    obtain ⟨hl, hs, h⟩ := h
    have one : ∀ (Q : Bool → Shared → Prop) E, Q false s → wpAny (model prog w) A.in1 (isInstance (.ref x) (.type "tuple")) Q E s := fun Q E q => by
      unfold isInstance
      refine wpAny_bind (wpAny_typeOf_ref hl ?_)
      exact (hs (model prog w)).here q
    obtain ⟨hp, g, d, tk, os⟩ := s
    wp_walk using one
    exact ⟨_, rfl, h⟩
theorem non_eq_inst (x : Addr) : Meets (Builtin.«NoneType.__eq__» ⟨[.none, .ref x], []⟩) (fun _ R s => R (.ok (.ret .notImplemented)) s) :=
  .of_wp fun prog w A R s h => by
    obtain ⟨hp, g, d, tk, os⟩ := s
    wp_walk
    exact ⟨_, rfl, h⟩
section
variable {prog : Program} {w : World} {A : Around} {E : Value → Shared → Prop} {s : Shared} {C x f : Addr} {ox : Obj} {od : Option Obj} {K : PySem.W.Frag}
/-- item == x, where the item's type declines and x's own == answers -/
theorem rc_right {item : Value} {T id : String} {Q : Value → Shared → Prop} (hu : A.units < cLine) (KX : K.In s.heap) (J : PySem.W.InstAt s.heap x ox C od) (hT : s.TypeIs item T)
    (slot : Slot T (cmpInfo .Eq).2.1 id) (h1 : oneThing? .Eq item (.ref x) = none) (hsub : PySem.W.subIn K (.ref C) (.type T) = some false)
    (hc : ∀ Q' : Value → Shared → Prop, Q' .notImplemented s → wpAny (model prog w) A (call (.builtin id) [item, .ref x]) Q' E s)
    (hs : PySem.W.findIn K (.ref C) "__eq__" = some (some (.ref f))) (hf : PySem.W.isFn K (.ref f) = true)
    (own : wpAny (model prog w) A (call (.ref f) [.ref x, item]) (fun v s' => ∃ b, v = .bool b ∧ Q (.bool b) s') E s) :
    wpAny (model prog w) A (richCompare .Eq item (.ref x)) Q E s := by
  unfold richCompare
  rw [h1]
  refine wpAny_holding (wpAny_bind (wpAny_cRoomFor hu ?_))
  show wpAny _ _ (typeOf item >>= _) _ _ _
  refine wpAny_bind (wpAny_typeOf hT (wpAny_bind (J.type.here ?_)))
  rw [if_pos (by simp)]
  refine wpAny_bind ((PySem.W.looks_subIn KX hsub).here ?_)
  simp only [Bool.false_eq_true, if_false]
  refine wpAny_bind (wpAny_tryCompare_declines hT slot (hc _ ⟨rfl, ?_⟩))
  simp only [Bool.not_false, if_true]
  unfold tryCompare
  refine wpAny_bind (wpAny_bind (PySem.W.ifBound_K KX J hs hf (wpAny_mono own ?_ fun _ _ e => e)))
  intro v s' z
  obtain ⟨b, rfl, q⟩ := z
  exact wpAny_pure (wpAny_pure q)
theorem eqb_of_rc {item : Value} {Q : Bool → Shared → Prop} (hne : (item == Value.ref x) = false) (hfl : ∀ a t, item ≠ .float a t)
    (h : wpAny (model prog w) A (richCompare .Eq item (.ref x)) (fun v s' => ∃ b, v = .bool b ∧ Q b s') E s) : wpAny (model prog w) A (eqBool item (.ref x)) Q E s := by
  unfold eqBool
  refine wpAny_holding ?_
  rw [hne]
  simp only [Bool.false_eq_true, if_false]
  refine wpAny_bind (wpAny_mono h (fun v s' z => ?_) fun _ _ e => e)
  obtain ⟨b, rfl, q⟩ := z
  exact wpAny_truthy_bool q
end
theorem tup_no {prog : Program} {w : World} {A : Around} {R : Result → Shared → Prop} (l : Addr) (items : Array Value) (n : Nat) (dd : Option Addr) (sl : Array (Option Value)) (x : Value) (I : Shared → Prop)
    (turn : ∀ y, y ∈ items → ∀ s, I s → wpAny (model prog w) A.in1 (eqBool y x) (fun r s' => r = false ∧ I s') (fun e s' => R (.error e) s') s) (fin : ∀ s, I s → R (.ok (.ret (.bool false))) s)
    {s : Shared} (hl : s.heap.get? l = some { cls := .type "tuple", dict := dd, data := .seq items n, slots := sl }) (h0 : I s) :
    wpAny (model prog w) A.in1 (Builtin.«tuple.__contains__» ⟨[.ref l, x], []⟩) (GQ.FinOf prog w A R) (fun e s' => R (.error e) s') s := by
  obtain ⟨hp, g, d, tk, os⟩ := s
  wp_walk using wpAny_loadPart' hl, wpAny_forIn_array _ (fun rest b s' => b.1 = none ∧ I s' ∧ ∀ y, y ∈ rest → y ∈ items) _
  case turn =>
    rintro y rest b s' ⟨hb, hI, hmem⟩
    refine wpAny_bind (wpAny_mono (turn y (hmem y (List.mem_cons_self ..)) s' hI) (fun r s2 q => ?_) fun _ _ e => e)
    obtain ⟨hr, q⟩ := q
    subst hr
    wp_walk
    exact ⟨rfl, q, fun z hz => hmem z (List.mem_cons_of_mem _ hz)⟩
  case fin =>
    rintro ⟨b1, b2⟩ s' ⟨hb, hI, -⟩
    simp only at hb
    subst hb
    have hR := fin s' hI
    wp_walk
    exact hR
  case h =>
    exact ⟨rfl, h0, fun y hy => by simpa using hy⟩
section
variable {X : Cx} {k : Nat} {f C : Addr} {fd : FuncData} {ps : List Str} {sp : Sp}
/-- x is not in a tuple of texts, None and tuples: its own == says no to each -/
def rNotIn (K : PySem.W.Frag) (C : Addr) (sp : Sp) : R2 := fun x y H Q => ∃ a dx fs p xs, x = .ref a ∧ y = .ref p ∧ H a = some (.ins C dx fs) ∧ H p = some (.tup xs) ∧
  (∀ v ∈ xs, (∃ z, v = .str z) ∨ v = .non ∨ ∃ q ys, v = .ref q ∧ H q = some (.tup ys)) ∧
  (∀ v ∈ xs, ∀ H', Same H H' → sp [.ref a, v] H' (fun r H2 => r = .bl false ∧ Same H' H2) (fun _ _ _ => False)) ∧ ∀ H', Same H H' → Q (.bl false) H'
theorem op_inO (F : FnOk X.prog X.w X.K X.mg X.base CX0 k f fd ps sp) (hr : Room (k + 1) X.A) (hb : Binds X.K fd ps [])
    (hs : PySem.W.findIn X.K (.ref C) "__eq__" = some (some (.ref f))) (hf : PySem.W.isFn X.K (.ref f) = true) (b1 : PySem.W.subIn X.K (.ref C) (.type "str") = some false)
    (b2 : PySem.W.subIn X.K (.ref C) (.type "NoneType") = some false) (b3 : PySem.W.subIn X.K (.ref C) (.type "tuple") = some false) : OpR X (compareOp .In) (rNotIn X.K C sp) := by
  intro pins s σ H x y v u Q I rx ry h
  obtain ⟨a, dx, fs, p, xs, rfl, rfl, ha, hp, hk, hsp, q⟩ := h
  cases rx
  cases ry
  obtain ⟨its, r, pt, hz⟩ := I.tuple (SqT.of hp)
  obtain ⟨⟨cls, dd, data, sl⟩, ho, hc, n, hd⟩ := id pt
  simp only at hc hd
  subst hc hd
  show wpAny _ _ (do return Value.bool (← contains (Value.ref p) (Value.ref a))) _ _ _
  refine wpAny_bind (wpAny_contains_slot ⟨_, ho, rfl⟩ PySem.F.slot_tuple_contains (GQ.call_here PySem.F.slot_tuple_contains ⟨_, ho, rfl⟩ PySem.F.entry_tuple_contains (PySem.F.args_tuple_contains_2 _ _)
    (tup_no p _ n _ _ (.ref a) (fun s' => ∃ H', Inv X pins σ H' s' ∧ Same H H') (fun z hz s' hI => ?_) (fun s' hI => ?_) ho ⟨H, I, Same.refl _⟩)))
  · obtain ⟨H', I', s1⟩ := hI
    obtain ⟨j, hj, ej⟩ := List.mem_iff_getElem.mp (show z ∈ its by simpa using hz)
    have hjx : j < xs.length := by rw [r.length]; exact hj
    obtain ⟨u, hu, ru⟩ := r.get (List.getElem?_eq_getElem hjx)
    have eu : u = z := by
      rw [List.getElem?_eq_getElem hj, ej] at hu
      exact (Option.some.inj hu).symm
    subst eu
    have hv := hk _ (List.getElem_mem hjx)
    have hq := hsp _ (List.getElem_mem hjx) H' s1
    have ha' := s1 _ _ ha
    obtain ⟨mA, J0, _⟩ := ins_get I'.hok ha'
    obtain ⟨od, J, _⟩ := J0.look
    have hob : s'.heap.get? a = some (PySem.W.instObj C dx) := J0.1
    have r1 := hr.in1
    have own : wpAny (model X.prog X.w) X.A.in1 (call (.ref f) [.ref a, u]) (fun v s2 => ∃ b, v = .bool b ∧ (b = false ∧ ∃ H2, Inv X pins σ H2 s2 ∧ Same H H2)) X.xe s' := by
      refine wpAny_mono (run_in (A' := X.A.in1) rfl F r1 hb I' (.cons (show RelV (V.ref a) (Value.ref a) from rfl) (.cons ru .nil)) hq) ?_ fun _ _ e => e
      intro v s2 zz
      obtain ⟨y, H2, I2, ry, ey, s2'⟩ := zz
      subst ey
      exact ⟨false, ry, rfl, H2, I2, s1.trans s2'⟩
    have fin : ∀ {T id : String}, s'.TypeIs u T → Slot T (cmpInfo .Eq).2.1 id → oneThing? .Eq u (.ref a) = none → PySem.W.subIn X.K (.ref C) (.type T) = some false →
        (∀ Q' : Value → Shared → Prop, Q' .notImplemented s' → wpAny (model X.prog X.w) X.A.in1 (call (.builtin id) [u, .ref a]) Q' X.xe s') → (u == Value.ref a) = false → (∀ b t, u ≠ .float b t) →
        wpAny (model X.prog X.w) X.A.in1 (eqBool u (.ref a)) (fun r s' => r = false ∧ ∃ H', Inv X pins σ H' s' ∧ Same H H') X.xe s' := fun hT sl h1 hsub hcl hne hfl =>
      eqb_of_rc hne hfl (wpAny_mono (rc_right (Q := fun v s2 => ∃ b, v = .bool b ∧ (b = false ∧ ∃ H2, Inv X pins σ H2 s2 ∧ Same H H2)) r1.units0 I'.kIn J hT sl h1 hsub hcl hs hf
        (wpAny_mono own (fun v s2 zz => by obtain ⟨b, e1, e2⟩ := zz; exact ⟨b, e1, b, rfl, e2⟩) fun _ _ e => e)) (fun v s2 zz => zz) fun _ _ e => e)
    rcases hv with ⟨zz, ez⟩ | ez | ⟨qq, ys, ez, eq⟩
    · rw [ez] at ru
      obtain ⟨t, rfl⟩ := ru
      exact fin (typeIs_str _ _ _) PySem.F.slot_str_eq rfl b1 (fun Q' hq' => call_meets PySem.F.slot_str_eq (typeIs_str _ _ _) PySem.F.entry_str_eq (PySem.F.args_str_eq_2 _ _) (str_eq_inst zz t a C dx) ⟨hob, hq'⟩) rfl (fun _ _ e => nomatch e)
    · rw [ez] at ru
      have ru' : u = Value.none := ru
      subst ru'
      exact fin (typeIs_none _) PySem.F.slot_NoneType_eq rfl b2 (fun Q' hq' => call_meets PySem.F.slot_NoneType_eq (typeIs_none _) PySem.F.entry_NoneType_eq (PySem.F.args_NoneType_eq_2 _ _) (non_eq_inst a) hq') rfl (fun _ _ e => nomatch e)
    · rw [ez] at ru
      have ru' : u = Value.ref qq := ru
      subst ru'
      have eq' := s1 _ _ eq
      obtain ⟨its2, r2, pt2, _⟩ := I'.tuple (SqT.of eq')
      obtain ⟨o2, ho2, hc2, _⟩ := pt2
      have nqa : (Value.ref qq == Value.ref a) = false := by
        have : qq ≠ a := ne_of eq' ha' (by intro z; cases z)
        simp [this]
      exact fin ⟨_, ho2, hc2⟩ PySem.F.slot_tuple_eq rfl b3 (fun Q' hq' => call_meets PySem.F.slot_tuple_eq ⟨_, ho2, hc2⟩ PySem.F.entry_tuple_eq (PySem.F.args_tuple_eq_2 _ _) (tup_eq_inst qq a C dx) ⟨hob, fun M => PySem.W.looks_subIn I'.kIn b3, hq'⟩) nqa (fun _ _ e => nomatch e)
  · obtain ⟨H', I', s'⟩ := hI
    exact wpAny_truthy_bool (wpAny_pure ⟨V.bl false, H', I', rfl, q H' s'⟩)
end
end My

namespace My
open PySem PySem.Spec PyProof.Rows L2

def topS (i : Nat) : Stmt := PySem.Challenge.pw_growntexts_k02_settings_made.main.body.getD i (.Pass ⟨0, 0, 0, 0⟩)
abbrev s_is_integer : Stmt := topS 1
abbrev N_is_integer : List Str := ["value"]
theorem sc_is_integer : FnScope N_is_integer ["value"] (defScope s_is_integer) :=
  ⟨rfl, rfl, rfl, by decide +kernel, rfl, by decide +kernel, by decide +kernel⟩
abbrev s_is_number : Stmt := topS 2
abbrev N_is_number : List Str := ["value"]
theorem sc_is_number : FnScope N_is_number ["value"] (defScope s_is_number) :=
  ⟨rfl, rfl, rfl, by decide +kernel, rfl, by decide +kernel, by decide +kernel⟩
abbrev s_is_word : Stmt := topS 3
abbrev N_is_word : List Str := ["value", "sign"]
theorem sc_is_word : FnScope N_is_word ["value"] (defScope s_is_word) :=
  ⟨rfl, rfl, rfl, by decide +kernel, rfl, by decide +kernel, by decide +kernel⟩
abbrev s_first_wrong : Stmt := topS 11
abbrev N_first_wrong : List Str := ["source", "head", "tail", "is_turned", "has_source"]
theorem sc_first_wrong : FnScope N_first_wrong ["source", "head", "tail", "is_turned"] (defScope s_first_wrong) :=
  ⟨rfl, rfl, rfl, by decide +kernel, rfl, by decide +kernel, by decide +kernel⟩
abbrev s_Setting_init : Stmt := inClass (topS 10) 0
abbrev N_Setting_init : List Str := ["self", "source", "head", "tail", "is_turned", "word"]
theorem sc_Setting_init : FnScope N_Setting_init ["self", "source", "head", "tail", "is_turned"] (defScope s_Setting_init) :=
  ⟨rfl, rfl, rfl, by decide +kernel, rfl, by decide +kernel, by decide +kernel⟩
abbrev s_Setting_over : Stmt := inClass (topS 10) 1
abbrev N_Setting_over : List Str := ["self", "text", "middle"]
theorem sc_Setting_over : FnScope N_Setting_over ["self", "text"] (defScope s_Setting_over) :=
  ⟨rfl, rfl, rfl, by decide +kernel, rfl, by decide +kernel, by decide +kernel⟩
abbrev s_Setting_eq : Stmt := inClass (topS 10) 3
abbrev N_Setting_eq : List Str := ["self", "other"]
theorem sc_Setting_eq : FnScope N_Setting_eq ["self", "other"] (defScope s_Setting_eq) :=
  ⟨rfl, rfl, rfl, by decide +kernel, rfl, by decide +kernel, by decide +kernel⟩
abbrev s_Setting_str : Stmt := inClass (topS 10) 4
abbrev N_Setting_str : List Str := ["self"]
theorem sc_Setting_str : FnScope N_Setting_str ["self"] (defScope s_Setting_str) :=
  ⟨rfl, rfl, rfl, by decide +kernel, rfl, by decide +kernel, by decide +kernel⟩
abbrev s_seed : Stmt := topS 13
abbrev N_seed : List Str := ["_law_script", "_law_k", "_law_cell", "_law_great"]
theorem sc_seed : FnScope N_seed ["_law_script", "_law_k"] (defScope s_seed) :=
  ⟨rfl, rfl, rfl, by decide +kernel, rfl, by decide +kernel, by decide +kernel⟩
abbrev s_choose : Stmt := topS 14
abbrev N_choose : List Str := ["_law_box", "_law_many", "_law_digit", "_law_raw"]
theorem sc_choose : FnScope N_choose ["_law_box", "_law_many"] (defScope s_choose) :=
  ⟨rfl, rfl, rfl, by decide +kernel, rfl, by decide +kernel, by decide +kernel⟩
abbrev s_one_of : Stmt := topS 15
abbrev N_one_of : List Str := ["_law_box", "_law_some"]
theorem sc_one_of : FnScope N_one_of ["_law_box", "_law_some"] (defScope s_one_of) :=
  ⟨rfl, rfl, rfl, by decide +kernel, rfl, by decide +kernel, by decide +kernel⟩
abbrev s_told : Stmt := topS 16
abbrev N_told : List Str := ["_law_box", "_law_marks", "_law_most", "_law_turn"]
theorem sc_told : FnScope N_told ["_law_box", "_law_marks", "_law_most"] (defScope s_told) :=
  ⟨rfl, rfl, rfl, by decide +kernel, rfl, by decide +kernel, by decide +kernel⟩
abbrev s_set_text : Stmt := topS 17
abbrev N_set_text : List Str := ["_law_one", "_law_mark"]
theorem sc_set_text : FnScope N_set_text ["_law_one"] (defScope s_set_text) :=
  ⟨rfl, rfl, rfl, by decide +kernel, rfl, by decide +kernel, by decide +kernel⟩
abbrev s_over : Stmt := topS 18
abbrev N_over : List Str := ["_law_one", "_law_cells", "_law_middle"]
theorem sc_over : FnScope N_over ["_law_one", "_law_cells"] (defScope s_over) :=
  ⟨rfl, rfl, rfl, by decide +kernel, rfl, by decide +kernel, by decide +kernel⟩
abbrev s_free : Stmt := topS 19
abbrev N_free : List Str := ["_law_box", "_law_marks", "_law_cell", "_law_ahead"]
theorem sc_free : FnScope N_free ["_law_box", "_law_marks"] (defScope s_free) :=
  ⟨rfl, rfl, rfl, by decide +kernel, rfl, by decide +kernel, by decide +kernel⟩
abbrev s_set_of : Stmt := topS 20
abbrev N_set_of : List Str := ["_law_one"]
theorem sc_set_of : FnScope N_set_of ["_law_one"] (defScope s_set_of) :=
  ⟨rfl, rfl, rfl, by decide +kernel, rfl, by decide +kernel, by decide +kernel⟩
abbrev s_law : Stmt := topS 21
abbrev N_law : List Str := ["_law_script", "_law_k", "_law_box", "_law_before", "_law_turn", "_law_marks", "_law_one", "_law_made", "_law_more", "_law_given", "_law_elder", "_law_known"]
theorem sc_law : FnScope N_law ["_law_script"] (defScope s_law) :=
  ⟨rfl, rfl, rfl, by decide +kernel, rfl, by decide +kernel, by decide +kernel⟩
structure Ad where
  (f_is_integer f_is_number f_is_word f_first_wrong f_Setting_init f_Setting_over f_Setting_eq f_Setting_str f_seed f_choose f_one_of f_told f_set_text f_over f_free f_set_of f_law : Addr)
  (d_is_integer d_is_number d_is_word d_first_wrong d_Setting_init d_Setting_over d_Setting_eq d_Setting_str d_seed d_choose d_one_of d_told d_set_text d_over d_free d_set_of d_law : FuncData)
  (c_Setting : Addr)
structure Txt (K : PySem.W.Frag) (mg : Str → Option Value) (A : Ad) : Prop where
  g_is_integer : mg "is_integer" = some (.ref A.f_is_integer)
  k_is_integer : PySem.W.keepIn K (.ref A.f_is_integer) = true
  F_is_integer : Fun K "is_integer" "is_integer" s_is_integer A.f_is_integer A.d_is_integer
  b_is_integer : Binds K A.d_is_integer ["value"] []
  g_is_number : mg "is_number" = some (.ref A.f_is_number)
  k_is_number : PySem.W.keepIn K (.ref A.f_is_number) = true
  F_is_number : Fun K "is_number" "is_number" s_is_number A.f_is_number A.d_is_number
  b_is_number : Binds K A.d_is_number ["value"] []
  g_is_word : mg "is_word" = some (.ref A.f_is_word)
  k_is_word : PySem.W.keepIn K (.ref A.f_is_word) = true
  F_is_word : Fun K "is_word" "is_word" s_is_word A.f_is_word A.d_is_word
  b_is_word : Binds K A.d_is_word ["value"] []
  g_first_wrong : mg "first_wrong" = some (.ref A.f_first_wrong)
  k_first_wrong : PySem.W.keepIn K (.ref A.f_first_wrong) = true
  F_first_wrong : Fun K "first_wrong" "first_wrong" s_first_wrong A.f_first_wrong A.d_first_wrong
  b_first_wrong : Binds K A.d_first_wrong ["source", "head", "tail", "is_turned"] []
  F_Setting_init : FunD K "__init__" "Setting.__init__" (defArgs s_Setting_init) (defBody s_Setting_init) (defScope s_Setting_init) [.str Str.empty, .str Str.empty, .bl false] [] A.f_Setting_init A.d_Setting_init
  b_Setting_init : Binds K A.d_Setting_init ["self", "source", "head", "tail", "is_turned"] []
  k_Setting_over : PySem.W.keepIn K (.ref A.f_Setting_over) = true
  F_Setting_over : Fun K "over" "Setting.over" s_Setting_over A.f_Setting_over A.d_Setting_over
  b_Setting_over : Binds K A.d_Setting_over ["self", "text"] []
  k_Setting_eq : PySem.W.keepIn K (.ref A.f_Setting_eq) = true
  F_Setting_eq : Fun K "__eq__" "Setting.__eq__" s_Setting_eq A.f_Setting_eq A.d_Setting_eq
  b_Setting_eq : Binds K A.d_Setting_eq ["self", "other"] []
  k_Setting_str : PySem.W.keepIn K (.ref A.f_Setting_str) = true
  F_Setting_str : Fun K "__str__" "Setting.__str__" s_Setting_str A.f_Setting_str A.d_Setting_str
  b_Setting_str : Binds K A.d_Setting_str ["self"] []
  g_seed : mg "_law_seed" = some (.ref A.f_seed)
  k_seed : PySem.W.keepIn K (.ref A.f_seed) = true
  F_seed : Fun K "_law_seed" "_law_seed" s_seed A.f_seed A.d_seed
  b_seed : Binds K A.d_seed ["_law_script", "_law_k"] []
  g_choose : mg "_law_choose" = some (.ref A.f_choose)
  k_choose : PySem.W.keepIn K (.ref A.f_choose) = true
  F_choose : Fun K "_law_choose" "_law_choose" s_choose A.f_choose A.d_choose
  b_choose : Binds K A.d_choose ["_law_box", "_law_many"] []
  g_one_of : mg "_law_one_of" = some (.ref A.f_one_of)
  k_one_of : PySem.W.keepIn K (.ref A.f_one_of) = true
  F_one_of : Fun K "_law_one_of" "_law_one_of" s_one_of A.f_one_of A.d_one_of
  b_one_of : Binds K A.d_one_of ["_law_box", "_law_some"] []
  g_told : mg "_law_told" = some (.ref A.f_told)
  k_told : PySem.W.keepIn K (.ref A.f_told) = true
  F_told : Fun K "_law_told" "_law_told" s_told A.f_told A.d_told
  b_told : Binds K A.d_told ["_law_box", "_law_marks", "_law_most"] []
  g_set_text : mg "_law_set_text" = some (.ref A.f_set_text)
  k_set_text : PySem.W.keepIn K (.ref A.f_set_text) = true
  F_set_text : Fun K "_law_set_text" "_law_set_text" s_set_text A.f_set_text A.d_set_text
  b_set_text : Binds K A.d_set_text ["_law_one"] []
  g_over : mg "_law_over" = some (.ref A.f_over)
  k_over : PySem.W.keepIn K (.ref A.f_over) = true
  F_over : Fun K "_law_over" "_law_over" s_over A.f_over A.d_over
  b_over : Binds K A.d_over ["_law_one", "_law_cells"] []
  g_free : mg "_law_free" = some (.ref A.f_free)
  k_free : PySem.W.keepIn K (.ref A.f_free) = true
  F_free : Fun K "_law_free" "_law_free" s_free A.f_free A.d_free
  b_free : Binds K A.d_free ["_law_box", "_law_marks"] []
  g_set_of : mg "_law_set_of" = some (.ref A.f_set_of)
  k_set_of : PySem.W.keepIn K (.ref A.f_set_of) = true
  F_set_of : Fun K "_law_set_of" "_law_set_of" s_set_of A.f_set_of A.d_set_of
  b_set_of : Binds K A.d_set_of ["_law_one"] []
  g_law : mg "law" = some (.ref A.f_law)
  k_law : PySem.W.keepIn K (.ref A.f_law) = true
  F_law : Fun K "law" "law" s_law A.f_law A.d_law
  b_law : Binds K A.d_law ["_law_script"] []
  g_Setting : mg "Setting" = some (.ref A.c_Setting)
  cl_Setting : Cls K A.c_Setting
  m_Setting : Mk K A.c_Setting A.f_Setting_init
  n_Setting_source : NoAttr K A.c_Setting "source"
  n_Setting_head : NoAttr K A.c_Setting "head"
  n_Setting_tail : NoAttr K A.c_Setting "tail"
  n_Setting_is_turned : NoAttr K A.c_Setting "is_turned"
  mt_Setting_over : Meth K A.c_Setting "over" A.f_Setting_over
  mt_Setting_eq : Meth K A.c_Setting "__eq__" A.f_Setting_eq
  mt_Setting_str : Meth K A.c_Setting "__str__" A.f_Setting_str
  r_ca : PySem.W.findIn K (.ref A.c_Setting) "__class__" = some (some (.builtin "object.__class__"))
  r_mo : PySem.W.mroIn K A.c_Setting (.type "object") = some true
  r_cn : PySem.W.specialIn K (.builtin "object.__class__") "__get__" = some (some (.builtin "getset_descriptor.__get__"))
  r_ct : PySem.W.takesIn K (.builtin "object.__class__") = some true
  r_ic : PySem.W.isClsIn K A.c_Setting = true
  r_ik : PySem.W.typeIn K (.ref A.c_Setting) = some (.type "type")
  r_ne : PySem.W.findIn K (.ref A.c_Setting) "__ne__" = some (some (.builtin "object.__ne__"))
  r_s1 : PySem.W.subIn K (.ref A.c_Setting) (.type "str") = some false
  r_s2 : PySem.W.subIn K (.ref A.c_Setting) (.type "NoneType") = some false
  r_s3 : PySem.W.subIn K (.ref A.c_Setting) (.type "tuple") = some false
  r_t1 : PySem.W.subIn K (.type "str") (.ref A.c_Setting) = some false
  r_t2 : PySem.W.subIn K (.type "NoneType") (.ref A.c_Setting) = some false
  r_t3 : PySem.W.subIn K (.type "tuple") (.ref A.c_Setting) = some false
  b2_Setting_init : ∃ ds, Vals [.str Str.empty, .str Str.empty, .bl false] ds ∧ Binds K A.d_Setting_init ["self", "source", "head", "tail", "is_turned"] ds
  b3_Setting_init : ∃ ds, Vals [.str Str.empty, .bl false] ds ∧ Binds K A.d_Setting_init ["self", "source", "head", "tail", "is_turned"] ds
  z_abs : mg "abs" = none
  z_all : mg "all" = none
  z_bool : mg "bool" = none
  z_int : mg "int" = none
  z_isinstance : mg "isinstance" = none
  z_len : mg "len" = none
  z_list : mg "list" = none
  z_max : mg "max" = none
  z_min : mg "min" = none
  z_range : mg "range" = none
  z_repr : mg "repr" = none
  z_str : mg "str" = none

def spSeed (K : PySem.W.Frag) : Sp := fun vs H Q _ => ∃ (a : Addr) (ns : List Int) (k : Int), vs = [.ref a, .int k] ∧ SqL K H a (ns.map V.int) ∧ ns.length ≤ 63 ∧ 0 ≤ k ∧ k ≤ 1000 ∧
  ∀ (p : Addr) (g r : Int), H p = none → Q (.ref p) (upd H p (.lst [.int g, .int r]))
def spChoose : Sp := fun vs H Q _ => ∃ (b : Addr) (m : Int), vs = [.ref b, .int m] ∧ B2 H b ∧ 0 < m ∧ m < 100000 ∧
  ∀ (d : Int) (H' : Hp), Dr b H H' → 0 ≤ d → d < m → (∀ p, H' p = none → H p = none) → Q (.int d) H'
def spOne (K : PySem.W.Frag) : Sp := fun vs H Q _ => ∃ (b p : Addr) (xs : List V), vs = [.ref b, .ref p] ∧ B2 H b ∧ SqL K H p xs ∧ p ≠ b ∧ 0 < xs.length ∧ xs.length < 1000 ∧
  ∀ (v : V) (H' : Hp), Dr b H H' → v ∈ xs → Q v H'
def spTold : Sp := fun vs H Q _ => ∃ (b : Addr) (z : Str) (m : Int), vs = [.ref b, .str z, .int m] ∧ B2 H b ∧ 0 < z.length ∧ z.length < 1000 ∧ 0 ≤ m ∧ m < 1000 ∧
  ∀ (y : Str) (H' : Hp), Dr b H H' → (y.length : Int) ≤ m → (∀ c ∈ y.cps.toList, c ∈ z.cps.toList) → Q (.str y) H'

def spLaw (K : PySem.W.Frag) : Sp := fun vs H Q _ => ∃ (a : Addr) (ns : List Int), vs = [.ref a] ∧ SqL K H a (ns.map V.int) ∧ ns.length ≤ 63 ∧ ∀ H', Q (.bl true) H'
end My

namespace My
open PySem PySem.Spec PyProof.Rows L2

local macro_rules | `(tactic| walk_at "rd") => `(tactic| (repeat (first
  | (refine ⟨_, rfl, ?_⟩) | (refine ⟨_, _, rfl, rfl, ?_⟩) | (refine ⟨_, _, rfl, ?_⟩) | (refine ⟨rfl, ?_⟩) | (refine ⟨⟨_, rfl⟩, ?_⟩)
  | (refine ⟨.inl (by decide), ?_⟩) | (refine ⟨.inr (by decide), ?_⟩) | (refine ⟨⟨by decide, by decide⟩, ?_⟩) | (refine ⟨⟨by decide, by decide, by decide⟩, ?_⟩) | (refine ⟨by decide, ?_⟩)
  | (refine ⟨(by show (0 : Int) < _; decide), ?_⟩)
  | (refine ⟨le_line rfl, ?_⟩) | (refine .inl ⟨_, rfl, ?_⟩) | (refine ⟨_, _, _, _, rfl, rfl, SqL.of (by assumption), rfl, ?_⟩))))


def isInt (x : V) : Bool := match x with | .int _ => true | _ => false
def spInt : Sp := fun vs H Q _ => ∃ (x : V) (t : Tg), vs = [x] ∧ Av H x t ∧ Q (.bl (isInt x)) H
def spNum : Sp := fun vs H Q _ => ∃ (x : V) (t : Tg), vs = [x] ∧ Av H x t ∧ Q (.bl (isNum x)) H
def spWord : Sp := fun vs H Q _ => ∃ (x : V) (t : Tg), vs = [x] ∧ Av H x t ∧ ∀ H', Same H H' → Q (.bl (isWord x)) H'
/-- the name of the first argument of a setting that is wrong -/
def fw (s h t u : V) : Option Str :=
  if s ≠ .non ∧ isNum s = false then some (PySem.Str.ofString "source")
  else if isWord h = false then some (PySem.Str.ofString "head")
  else if isWord t = false ∨ (t ≠ .str Str.empty ∧ s = .non) then some (PySem.Str.ofString "tail")
  else if (¬ ∃ b, u = .bl b) ∨ (u = .bl true ∧ s = .non) then some (PySem.Str.ofString "is_turned")
  else none

section
theorem ok_is_integer {K : PySem.W.Frag} {mg : Str → Option Value} {A0 : Ad} {P : Program} {w : World} {base : Heap} (T : Txt K mg A0) : FnOk P w K mg base CX0 1 A0.f_is_integer A0.d_is_integer ["value"] (spInt) := by
  refine T.F_is_integer.ok sc_is_integer (fun vs H Q E h => ?_) (fun cdv A outer s H vs Q E hr h => ?_)
  · obtain ⟨x, t, rfl, av, kk⟩ := h
    rfl
  · obtain ⟨x, t, rfl, av, kk⟩ := h
    refine ⟨_, (pss_one (ps_ret (pe_and (pe_callB cr_isA (by rfl) T.z_isinstance (by decide +kernel) (pa_cons (pv 0) (pa_cons (pe_bltn (v := .ty "int") (by rfl) T.z_int (by decide +kernel) rfl) pa_nil))) (pe_one (pe_not (pe_callB cr_isA (by rfl) T.z_isinstance (by decide +kernel) (pa_cons (pv 0) (pa_cons (pe_bltn (v := .ty "bool") (by rfl) T.z_bool (by decide +kernel) rfl) pa_nil)))))))), ?_⟩
    cases av with
    | non => walk_at "rd"; exact ⟨_, _, _, rfl, .inl rfl, .non, _, rfl, kk⟩
    | bl b => 
      walk_at "rd"
      refine ⟨_, _, _, rfl, .inl rfl, .bl b, _, rfl, ?_⟩
      exact ⟨_, rfl, _, _, _, rfl, .inr (.inl rfl), .bl b, _, rfl, kk⟩
    | int i =>
      walk_at "rd"
      refine ⟨_, _, _, rfl, .inl rfl, .int i, _, rfl, ?_⟩
      exact ⟨_, rfl, _, _, _, rfl, .inr (.inl rfl), .int i, _, rfl, kk⟩
    | str z h => walk_at "rd"; exact ⟨_, _, _, rfl, .inl rfl, .str z h, _, rfl, kk⟩
    | lst e => walk_at "rd"; exact ⟨_, _, _, rfl, .inl rfl, .lst e, _, rfl, kk⟩
    | tup e => walk_at "rd"; exact ⟨_, _, _, rfl, .inl rfl, .tup e, _, rfl, kk⟩

theorem ok_is_number {K : PySem.W.Frag} {mg : Str → Option Value} {A0 : Ad} {P : Program} {w : World} {base : Heap} (T : Txt K mg A0) : FnOk P w K mg base CX0 2 A0.f_is_number A0.d_is_number ["value"] (spNum) := by
  have Gis_integer := ok_is_integer (P := P) (w := w) (base := base) T
  refine T.F_is_number.ok sc_is_number (fun vs H Q E h => ?_) (fun cdv A outer s H vs Q E hr h => ?_)
  · obtain ⟨x, t, rfl, av, kk⟩ := h
    rfl
  · obtain ⟨x, t, rfl, av, kk⟩ := h
    have hr_is_integer : Room 1 _ := hr.mono (by decide)
    refine ⟨_, (pss_one (ps_ret (pe_and (pe_call Gis_integer hr_is_integer rfl T.g_is_integer T.k_is_integer T.b_is_integer .nil pass0 (pa_cons (pv 0) pa_nil)) (pe_one (pe_cmpR op_ge (pv 0) pe_int (nomark _)))))), ?_⟩
    walk_at "rd"
    refine ⟨x, t, rfl, av, isInt x, rfl, ?_⟩
    cases av with
    | int i => exact ⟨_, rfl, _, _, rfl, rfl, kk⟩
    | non => exact kk
    | bl b => exact kk
    | str z h => exact kk
    | lst e => exact kk
    | tup e => exact kk

theorem ok_is_word {K : PySem.W.Frag} {mg : Str → Option Value} {A0 : Ad} {P : Program} {w : World} {base : Heap} (T : Txt K mg A0) : FnOk P w K mg base CX0 1 A0.f_is_word A0.d_is_word ["value"] (spWord) := by
  refine T.F_is_word.ok sc_is_word (fun vs H Q E h => ?_) (fun cdv A outer s H vs Q E hr h => ?_)
  · obtain ⟨x, t, rfl, av, kk⟩ := h
    rfl
  · obtain ⟨x, t, rfl, av, kk⟩ := h
    refine ⟨_, (pss_one (ps_ret (pe_and (pe_callB cr_isA (by rfl) T.z_isinstance (by decide +kernel) (pa_cons (pv 0) (pa_cons (pe_bltn (v := .ty "str") (by rfl) T.z_str (by decide +kernel) rfl) pa_nil))) (pe_one (pe_callB (cr_all rfl) (by rfl) T.z_all (by decide +kernel) (pa_cons (pe_lc (own := [("sign", 1)]) (g := gName 1) (tt := tYes) rfl sc_is_word.nd (pi_str (pv 0)) (blkOk_by (own := [("sign", 1)]) (N := N_is_word) (sc := defScope s_is_word) (by decide +kernel)) (fun _ _ _ _ _ => (pg_name (i := 1) sc_is_word.nd rfl (Or.inl rfl))) (fun _ _ _ _ _ => pts_nil) (fun _ _ _ _ _ => by exact (pe_chain op_le_str op_le_str pe_str (pv 1) pe_str))) pa_nil)))))), ?_⟩
    cases av with
    | non => walk_at "rd"; exact ⟨_, _, _, rfl, .inr (.inr (.inl rfl)), .non, _, rfl, kk _ (Same.refl _)⟩
    | bl b => walk_at "rd"; exact ⟨_, _, _, rfl, .inr (.inr (.inl rfl)), .bl b, _, rfl, kk _ (Same.refl _)⟩
    | int i => walk_at "rd"; exact ⟨_, _, _, rfl, .inr (.inr (.inl rfl)), .int i, _, rfl, kk _ (Same.refl _)⟩
    | lst e => walk_at "rd"; exact ⟨_, _, _, rfl, .inr (.inr (.inl rfl)), .lst e, _, rfl, kk _ (Same.refl _)⟩
    | tup e => walk_at "rd"; exact ⟨_, _, _, rfl, .inr (.inr (.inl rfl)), .tup e, _, rfl, kk _ (Same.refl _)⟩
    | str z hz =>
      walk_at "rd"
      refine ⟨_, _, _, rfl, .inr (.inr (.inl rfl)), .str z hz, _, rfl, ?_⟩
      refine ⟨_, rfl, z, rfl, fun D nD => ?_⟩
      have hzl : z.cps.toList.length = z.length := len_cps z
      refine lc_it walk_str (fun i H' => Same H H' ∧ H' D = some (.lst (((z.cps.toList.take i).map fun c => decide (97 ≤ c ∧ c ≤ 122)).map V.bl)))
        ⟨same_upd nD, upd_same⟩ (fun _ _ _ _ => trivial) (fun i x H1 H2 hi P1 Y1 => ?_) (fun H1 P1 => ?_)
      · obtain ⟨s1, eD⟩ := P1
        obtain ⟨rfl, c, ec, rfl⟩ := Y1
        have ec' : z.cps.toList[i]? = some c := by simpa using ec
        have fin : ∀ k : Bool, k = decide (97 ≤ c ∧ c ≤ 122) → ∃ acc, H2 D = some (.lst acc) ∧ acc.length < sizeLine ∧ (Same H (upd H2 D (.lst (acc ++ [.bl k]))) ∧
            (upd H2 D (.lst (acc ++ [.bl k]))) D = some (.lst (((z.cps.toList.take (i + 1)).map fun c => decide (97 ≤ c ∧ c ≤ 122)).map V.bl))) := by
          intro k ek
          refine ⟨_, eD, ?_, fun b o e => by rw [upd_ne (ne_of_none e nD)]; exact s1 _ _ e, ?_⟩
          · rw [List.length_map, List.length_map, List.length_take]
            exact Nat.lt_of_lt_of_le (show min i z.cps.toList.length < 1001 by omega) (le_lineN (by omega))
          · rw [upd_same, List.take_add_one, ec', List.map_append, List.map_append, ek]
            rfl
        refine ⟨rfl, ?_⟩
        refine ⟨_, rfl, _, _, rfl, rfl, _, rfl, ?_⟩
        rw [show (PySem.Str.ofString "a").cps.toList = [97] by decide +kernel, sign_le]
        refine ite2 (fun h1 => ?_) (fun h1 => ?_)
        · refine ⟨_, _, rfl, rfl, ?_⟩
          rw [show (PySem.Str.ofString "z").cps.toList = [122] by decide +kernel, sign_ge]
          have h1' : 97 ≤ c := of_decide_eq_true h1
          exact fin _ (by
            by_cases h2 : c ≤ 122
            · rw [decide_eq_true h2, decide_eq_true ⟨h1', h2⟩]
            · rw [decide_eq_false h2, decide_eq_false (fun z => h2 z.2)])
        · have h1' : ¬ 97 ≤ c := fun q => h1 (decide_eq_true q)
          exact fin _ (decide_eq_false (fun q => h1' q.1)).symm
      · obtain ⟨s1, eD⟩ := P1
        rw [List.take_of_length_le (by rw [Array.length_toList]; exact Nat.le_refl _)] at eD
        refine ⟨D, _, rfl, SqL.of eD, ?_⟩
        rw [List.all_map]
        exact kk H1 s1

end
end My

namespace My
open PySem PySem.Spec PyProof.Rows L2

local macro_rules | `(tactic| walk_at "rd") => `(tactic| (repeat (first
  | (refine ⟨_, rfl, ?_⟩) | (refine ⟨_, _, rfl, rfl, ?_⟩) | (refine ⟨_, _, rfl, ?_⟩) | (refine ⟨rfl, ?_⟩) | (refine ⟨⟨_, rfl⟩, ?_⟩)
  | (refine ⟨.inl (by decide), ?_⟩) | (refine ⟨.inr (by decide), ?_⟩) | (refine ⟨⟨by decide, by decide⟩, ?_⟩) | (refine ⟨⟨by decide, by decide, by decide⟩, ?_⟩) | (refine ⟨by decide, ?_⟩)
  | (refine ⟨(by show (0 : Int) < _; decide), ?_⟩)
  | (refine ⟨le_line rfl, ?_⟩) | (refine .inl ⟨_, rfl, ?_⟩) | (refine ⟨_, _, _, _, rfl, rfl, SqL.of (by assumption), rfl, ?_⟩))))


theorem iteN {c A B : Prop} [Decidable c] (hc : ¬ c) (h : A) : if (!decide c) = true then A else B := by
  rw [decide_eq_false hc]
  exact iteT h
theorem fw_src {s h t u : V} (c0 : s ≠ .non) (c1 : isNum s = false) : fw s h t u = some (PySem.Str.ofString "source") := by unfold fw; rw [if_pos ⟨c0, c1⟩]
theorem fw_head {s h t u : V} (c0 : ¬ (s ≠ .non ∧ isNum s = false)) (c1 : isWord h = false) : fw s h t u = some (PySem.Str.ofString "head") := by unfold fw; rw [if_neg c0, if_pos c1]
theorem fw_tail {s h t u : V} (c0 : ¬ (s ≠ .non ∧ isNum s = false)) (c1 : isWord h = true) (c2 : isWord t = false ∨ (t ≠ .str Str.empty ∧ s = .non)) : fw s h t u = some (PySem.Str.ofString "tail") := by
  unfold fw; rw [if_neg c0, if_neg (by rw [c1]; decide), if_pos c2]
theorem fw_turn {s h t u : V} (c0 : ¬ (s ≠ .non ∧ isNum s = false)) (c1 : isWord h = true) (c2 : ¬ (isWord t = false ∨ (t ≠ .str Str.empty ∧ s = .non))) (c3 : (¬ ∃ b, u = .bl b) ∨ (u = .bl true ∧ s = .non)) : fw s h t u = some (PySem.Str.ofString "is_turned") := by
  unfold fw; rw [if_neg c0, if_neg (by rw [c1]; decide), if_neg c2, if_pos c3]
theorem fw_none {s h t u : V} (c0 : ¬ (s ≠ .non ∧ isNum s = false)) (c1 : isWord h = true) (c2 : ¬ (isWord t = false ∨ (t ≠ .str Str.empty ∧ s = .non))) (c3 : ¬ ((¬ ∃ b, u = .bl b) ∨ (u = .bl true ∧ s = .non))) : fw s h t u = none := by
  unfold fw; rw [if_neg c0, if_neg (by rw [c1]; decide), if_neg c2, if_neg c3]
def oV : Option Str → V
  | none => .non
  | some x => .str x
def spFW : Sp := fun vs H Q _ => ∃ (s h t u : V) (a b c e : Tg), vs = [s, h, t, u] ∧ Av H s a ∧ Av H h b ∧ Av H t c ∧ Av H u e ∧ ∀ H', Same H H' → Q (oV (fw s h t u)) H'

section
theorem ok_first_wrong {K : PySem.W.Frag} {mg : Str → Option Value} {A0 : Ad} {P : Program} {w : World} {base : Heap} (T : Txt K mg A0) : FnOk P w K mg base CX0 3 A0.f_first_wrong A0.d_first_wrong ["source", "head", "tail", "is_turned"] (spFW) := by
  have Gis_word := ok_is_word (P := P) (w := w) (base := base) T
  have Gis_number := ok_is_number (P := P) (w := w) (base := base) T
  refine T.F_first_wrong.ok sc_first_wrong (fun vs H Q E h => ?_) (fun cdv A outer s H vs Q E hr h => ?_)
  · obtain ⟨s, h, t, u, a, b, c, e, rfl, as, ah, at_, au, kk⟩ := h
    rfl
  · obtain ⟨s, h, t, u, a, b, c, e, rfl, as, ah, at_, au, kk⟩ := h
    have hr_is_word : Room 1 _ := hr.mono (by decide)
    have hr_is_number : Room 2 _ := hr.mono (by decide)
    refine ⟨_, (pss_cons (ps_set (i := 4) sc_first_wrong.nd rfl (Or.inl rfl) (pe_cmpR op_notN (pv 0) pe_non (nomark _)))
      (pss_cons (ps_if (PW.pt (pw_and (pt_val (pv 4)) (pw_and1 (pt_not (pt_val (pe_call Gis_number hr_is_number rfl T.g_is_number T.k_is_number T.b_is_number .nil pass0 (pa_cons (pv 0) pa_nil))))))) (pss_one (ps_ret pe_str)) pss_nil)
      (pss_cons (ps_if (pt_not (pt_val (pe_call Gis_word hr_is_word rfl T.g_is_word T.k_is_word T.b_is_word .nil pass0 (pa_cons (pv 1) pa_nil)))) (pss_one (ps_ret pe_str)) pss_nil)
      (pss_cons (ps_if (PW.pt (pw_or (pt_not (pt_val (pe_call Gis_word hr_is_word rfl T.g_is_word T.k_is_word T.b_is_word .nil pass0 (pa_cons (pv 2) pa_nil)))) (pw_or1 (PW.pt (pw_and (pt_cmpR op_ne (pv 2) pe_str (nomark _)) (pw_and1 (pt_not (pt_val (pv 4))))))))) (pss_one (ps_ret pe_str)) pss_nil)
      (pss_cons (ps_if (PW.pt (pw_or (pt_not (pt_val (pe_callB cr_isA (by rfl) T.z_isinstance (by decide +kernel) (pa_cons (pv 3) (pa_cons (pe_bltn (v := .ty "bool") (by rfl) T.z_bool (by decide +kernel) rfl) pa_nil))))) (pw_or1 (PW.pt (pw_and (pt_val (pv 3)) (pw_and1 (pt_not (pt_val (pv 4))))))))) (pss_one (ps_ret pe_str)) pss_nil)
      (pss_one (ps_ret pe_non))))))), ?_⟩
    have ret : ∀ (r : Option Str) (H' : Hp), fw s h t u = r → Same H H' → Q (oV r) H' := fun r H' e s1 => e ▸ kk H' s1
    refine ⟨_, rfl, rfl, ?_⟩
    by_cases c0 : s = .non
    · subst c0
      have c01 : ¬ (V.non ≠ .non ∧ isNum .non = false) := fun q => q.1 rfl
      refine ⟨_, rfl, _, rfl, ?_⟩
      refine ⟨_, rfl, h, b, rfl, ah, fun H1 s1 => ?_⟩
      refine ⟨_, rfl, ?_⟩
      cases e1 : isWord h with
      | false => exact ret _ _ (fw_head c01 e1) s1
      | true =>
        refine ⟨_, rfl, t, c, rfl, at_.same s1, fun H2 s2 => ?_⟩
        have s12 := s1.trans s2
        refine ⟨_, rfl, ?_⟩
        cases e2 : isWord t with
        | false => exact ret _ _ (fw_tail c01 e1 (.inl e2)) s12
        | true =>
          cases at_ with
          | str z hz =>
            refine ⟨_, rfl, rfl, _, rfl, ?_⟩
            by_cases ez : V.str z = V.str Str.empty
            · refine iteNS ez ?_
              have c2 : ¬ (isWord (V.str z) = false ∨ (V.str z ≠ .str Str.empty ∧ V.non = .non)) := fun q => q.elim (fun q => by rw [e2] at q; cases q) fun q => q.1 ez
              have au2 := au.same s12
              refine ⟨_, rfl, u, _, e, rfl, .inr (.inl rfl), au2, _, rfl, ?_⟩
              cases au with
              | bl y =>
                refine ⟨_, rfl, _, rfl, ?_⟩
                cases y with
                | false => exact ret _ _ (fw_none c01 e1 c2 (fun q => q.elim (fun q => q ⟨_, rfl⟩) fun q => by cases q.1)) s12
                | true =>
                  refine ⟨_, rfl, _, rfl, ?_⟩
                  exact ret _ _ (fw_turn c01 e1 c2 (.inr ⟨rfl, rfl⟩)) s12
              | non => exact ret _ _ (fw_turn c01 e1 c2 (.inl fun q => by obtain ⟨_, q⟩ := q; cases q)) s12
              | int i => exact ret _ _ (fw_turn c01 e1 c2 (.inl fun q => by obtain ⟨_, q⟩ := q; cases q)) s12
              | str z hz => exact ret _ _ (fw_turn c01 e1 c2 (.inl fun q => by obtain ⟨_, q⟩ := q; cases q)) s12
              | lst q => exact ret _ _ (fw_turn c01 e1 c2 (.inl fun q => by obtain ⟨_, q⟩ := q; cases q)) s12
              | tup q => exact ret _ _ (fw_turn c01 e1 c2 (.inl fun q => by obtain ⟨_, q⟩ := q; cases q)) s12
            · refine iteN ez ?_
              refine ⟨_, rfl, _, rfl, ?_⟩
              exact ret _ _ (fw_tail c01 e1 (.inr ⟨ez, rfl⟩)) s12
          | non => cases e2
          | bl y => cases e2
          | int y => cases e2
          | lst q => cases e2
          | tup q => cases e2
    · rw [decide_eq_false c0]
      refine ⟨_, rfl, _, rfl, ?_⟩
      refine ⟨_, rfl, s, a, rfl, as, ?_⟩
      refine ⟨_, rfl, ?_⟩
      cases e0 : isNum s with
      | false => exact ret _ _ (fw_src c0 e0) (Same.refl _)
      | true =>
        have c01 : ¬ (s ≠ .non ∧ isNum s = false) := fun q => by rw [e0] at q; cases q.2
        refine ⟨_, rfl, h, b, rfl, ah, fun H1 s1 => ?_⟩
        refine ⟨_, rfl, ?_⟩
        cases e1 : isWord h with
        | false => exact ret _ _ (fw_head c01 e1) s1
        | true =>
          refine ⟨_, rfl, t, c, rfl, at_.same s1, fun H2 s2 => ?_⟩
          have s12 := s1.trans s2
          refine ⟨_, rfl, ?_⟩
          cases e2 : isWord t with
          | false => exact ret _ _ (fw_tail c01 e1 (.inl e2)) s12
          | true =>
            cases at_ with
            | str z hz =>
              refine ⟨_, rfl, rfl, _, rfl, ?_⟩
              have c2 : ¬ (isWord (V.str z) = false ∨ (V.str z ≠ .str Str.empty ∧ s = .non)) := fun q => q.elim (fun q => by rw [e2] at q; cases q) fun q => c0 q.2
              by_cases ez : V.str z = V.str Str.empty
              · refine iteNS ez ?_
                have au2 := au.same s12
                refine ⟨_, rfl, u, _, e, rfl, .inr (.inl rfl), au2, _, rfl, ?_⟩
                cases au with
                | bl y =>
                  refine ⟨_, rfl, _, rfl, ?_⟩
                  cases y with
                  | false => exact ret _ _ (fw_none c01 e1 c2 (fun q => q.elim (fun q => q ⟨_, rfl⟩) fun q => by cases q.1)) s12
                  | true =>
                    refine ⟨_, rfl, _, rfl, ?_⟩
                    exact ret _ _ (fw_none c01 e1 c2 (fun q => q.elim (fun q => q ⟨_, rfl⟩) fun q => c0 q.2)) s12
                | non => exact ret _ _ (fw_turn c01 e1 c2 (.inl fun q => by obtain ⟨_, q⟩ := q; cases q)) s12
                | int i => exact ret _ _ (fw_turn c01 e1 c2 (.inl fun q => by obtain ⟨_, q⟩ := q; cases q)) s12
                | str z hz => exact ret _ _ (fw_turn c01 e1 c2 (.inl fun q => by obtain ⟨_, q⟩ := q; cases q)) s12
                | lst q => exact ret _ _ (fw_turn c01 e1 c2 (.inl fun q => by obtain ⟨_, q⟩ := q; cases q)) s12
                | tup q => exact ret _ _ (fw_turn c01 e1 c2 (.inl fun q => by obtain ⟨_, q⟩ := q; cases q)) s12
              · refine iteN ez ?_
                refine ⟨_, rfl, _, rfl, ?_⟩
                have au2 := au.same s12
                refine ⟨_, rfl, u, _, e, rfl, .inr (.inl rfl), au2, _, rfl, ?_⟩
                cases au with
                | bl y =>
                  refine ⟨_, rfl, _, rfl, ?_⟩
                  cases y with
                  | false => exact ret _ _ (fw_none c01 e1 c2 (fun q => q.elim (fun q => q ⟨_, rfl⟩) fun q => by cases q.1)) s12
                  | true =>
                    refine ⟨_, rfl, _, rfl, ?_⟩
                    exact ret _ _ (fw_none c01 e1 c2 (fun q => q.elim (fun q => q ⟨_, rfl⟩) fun q => c0 q.2)) s12
                | non => exact ret _ _ (fw_turn c01 e1 c2 (.inl fun q => by obtain ⟨_, q⟩ := q; cases q)) s12
                | int i => exact ret _ _ (fw_turn c01 e1 c2 (.inl fun q => by obtain ⟨_, q⟩ := q; cases q)) s12
                | str z hz => exact ret _ _ (fw_turn c01 e1 c2 (.inl fun q => by obtain ⟨_, q⟩ := q; cases q)) s12
                | lst q => exact ret _ _ (fw_turn c01 e1 c2 (.inl fun q => by obtain ⟨_, q⟩ := q; cases q)) s12
                | tup q => exact ret _ _ (fw_turn c01 e1 c2 (.inl fun q => by obtain ⟨_, q⟩ := q; cases q)) s12
            | non => cases e2
            | bl y => cases e2
            | int y => cases e2
            | lst q => cases e2
            | tup q => cases e2

end
end My

namespace My
open PySem PySem.Spec PyProof.Rows L2

local macro_rules | `(tactic| walk_at "rd") => `(tactic| (repeat (first
  | (refine ⟨_, rfl, ?_⟩) | (refine ⟨_, _, rfl, rfl, ?_⟩) | (refine ⟨_, _, rfl, ?_⟩) | (refine ⟨rfl, ?_⟩) | (refine ⟨⟨_, rfl⟩, ?_⟩)
  | (refine ⟨.inl (by decide), ?_⟩) | (refine ⟨.inr (by decide), ?_⟩) | (refine ⟨⟨by decide, by decide⟩, ?_⟩) | (refine ⟨⟨by decide, by decide, by decide⟩, ?_⟩) | (refine ⟨by decide, ?_⟩)
  | (refine ⟨(by show (0 : Int) < _; decide), ?_⟩)
  | (refine ⟨le_line rfl, ?_⟩) | (refine .inl ⟨_, rfl, ?_⟩) | (refine ⟨_, _, _, _, rfl, rfl, SqL.of (by assumption), rfl, ?_⟩))))


theorem len_putF (f : Str) (v : V) : ∀ l : List (Str × V), (putF f v l).length ≤ l.length + 1
  | [] => Nat.le_refl _
  | (g, u) :: r => by
    unfold putF
    split
    · exact Nat.le_succ _
    · exact Nat.succ_le_succ (len_putF f v r)
theorem few0 {f : Str} {v : V} {l : List (Str × V)} {n : Nat} (h : l.length ≤ n) : (putF f v l).length ≤ n + 1 := Nat.le_trans (len_putF f v l) (Nat.succ_le_succ h)
theorem few {l : List (Str × V)} {n : Nat} (h : l.length ≤ n) (k : n < 1000) : l.length < 1000 := Nat.lt_of_le_of_lt h k
def setF (s h t u : V) : List (Str × V) := putF "is_turned" u (putF "tail" t (putF "head" h (putF "source" s [])))

theorem word_sub {y z : Str} (h : ∀ c ∈ y.cps.toList, c ∈ z.cps.toList) (w : wordB z = true) : wordB y = true :=
  List.all_eq_true.mpr fun c hc => List.all_eq_true.mp w c (h c hc)
theorem word_abc {y : Str} (w : wordB y = true) : Abc y := fun c hc => by
  have := of_decide_eq_true (List.all_eq_true.mp w c hc)
  omega
theorem fw_ok0 {y : Str} (w : wordB y = true) : fw .non (.str y) (.str Str.empty) (.bl false) = none :=
  fw_none (fun q => q.1 rfl) w (fun q => q.elim (fun q => by cases q) fun q => q.1 rfl) fun q => q.elim (fun q => q ⟨_, rfl⟩) fun q => by cases q.1
theorem fw_ok1 {i : Int} {y x : Str} {k : Bool} (hi : 0 ≤ i) (w : wordB y = true) (w2 : wordB x = true) : fw (.int i) (.str y) (.str x) (.bl k) = none :=
  fw_none (fun q => by have z : decide (0 ≤ i) = false := q.2; rw [decide_eq_true hi] at z; cases z) w
    (fun q => q.elim (fun q => by have z : wordB x = false := q; rw [w2] at z; cases z) fun q => by cases q.2)
    fun q => q.elim (fun q => q ⟨_, rfl⟩) fun q => by cases q.2

/-- a setting -/
structure So where
  s : Option Int
  h : Str
  t : Str
  u : Bool
def So.sv (o : So) : V := match o.s with | none => .non | some i => .int i
def So.vs (o : So) : List V := [o.sv, .str o.h, .str o.t, .bl o.u]
def So.fs (o : So) : List (Str × V) := setF o.sv (.str o.h) (.str o.t) (.bl o.u)
structure So.ok (o : So) : Prop where
  wh : wordB o.h = true
  wt : wordB o.t = true
  lh : o.h.length ≤ 3
  lt : o.t.length ≤ 3
  lo : ∀ i, o.s = some i → 0 ≤ i ∧ i ≤ 12
  no : o.s = none → o.t = Str.empty ∧ o.u = false
@[irreducible] def So.over (o : So) (x : Str) : Str := match o.s with | none => o.h | some _ => o.h ++ (if o.u = true then revS x else x) ++ o.t
@[irreducible] def So.txt (o : So) : Str := match o.s with
  | none => o.h ++ "." ++ "-" ++ "." ++ o.t
  | some i => o.h ++ "." ++ ((if o.u = true then ("~" : Str) else Str.empty) ++ (toString i : String)) ++ "." ++ o.t
theorem So.fw_ok {o : So} (h : o.ok) : fw o.sv (.str o.h) (.str o.t) (.bl o.u) = none := by
  obtain ⟨s, hh, t, u⟩ := o
  cases s with
  | none =>
    obtain ⟨e1, e2⟩ := h.no rfl
    have e1 : t = Str.empty := e1
    have e2 : u = false := e2
    subst e1 e2
    exact fw_ok0 h.wh
  | some i => exact fw_ok1 (h.lo i rfl).1 h.wh h.wt
theorem So.av {o : So} {H : Hp} : ∃ t, Av H o.sv t := by
  obtain ⟨s, hh, t, u⟩ := o
  cases s with
  | none => exact ⟨_, .non⟩
  | some i => exact ⟨_, .int i⟩
theorem So.l1 (o : So) : o.fs.lookup ("source" : Str) = some o.sv := rfl
theorem So.l2 (o : So) : o.fs.lookup ("head" : Str) = some (V.str o.h) := rfl
theorem So.l3 (o : So) : o.fs.lookup ("tail" : Str) = some (V.str o.t) := rfl
theorem So.l4 (o : So) : o.fs.lookup ("is_turned" : Str) = some (V.bl o.u) := rfl
theorem So.l5 (o : So) : o.fs.lookup ("over" : Str) = none := rfl
/-- a setting at its place -/
def SetAt (C : Addr) (H : Hp) (a : Addr) (o : So) : Prop := ∃ dx, H a = some (.ins C dx o.fs)
def spInit0 (C : Addr) : Sp := fun vs H Q _ => ∃ (p dx : Addr) (o : So), vs = .ref p :: o.vs ∧ H p = some (.ins C dx []) ∧ o.ok ∧
  ∀ H' : Hp, (∀ b x, b ≠ p → H b = some x → H' b = some x) → SetAt C H' p o → Q .non H'
def spOver (C : Addr) : Sp := fun vs H Q _ => ∃ (a : Addr) (x : Str) (o : So), vs = [.ref a, .str x] ∧ SetAt C H a o ∧ o.ok ∧ x.length ≤ 1000 ∧ Q (.str (o.over x)) H
def So.same (o p : So) : Bool := decide (o.sv = p.sv) && (decide (o.h = p.h) && (decide (o.t = p.t) && decide (o.u = p.u)))
/-- the other side of an own == -/
inductive Oth (C : Addr) (H : Hp) (o : So) : V → Bool → Prop
  | set {b : Addr} {p : So} (e : SetAt C H b p) : Oth C H o (.ref b) (o.same p)
  | str (z : Str) : Oth C H o (.str z) false
  | non : Oth C H o .non false
  | tup {q : Addr} {ys : List V} (e : H q = some (.tup ys)) : Oth C H o (.ref q) false
def spEq (C : Addr) : Sp := fun vs H Q _ => ∃ (a : Addr) (v : V) (o : So) (r : Bool), vs = [.ref a, v] ∧ SetAt C H a o ∧ Oth C H o v r ∧ Q (.bl r) H
def spStr (C : Addr) : Sp := fun vs H Q _ => ∃ (a : Addr) (o : So), vs = [.ref a] ∧ SetAt C H a o ∧ o.ok ∧ Q (.str o.txt) H
def spTxt : Sp := fun vs H Q _ => ∃ (l : Addr) (o : So), vs = [.ref l] ∧ H l = some (.tup o.vs) ∧ o.ok ∧ Q (.str o.txt) H
def spLOver (K : PySem.W.Frag) : Sp := fun vs H Q _ => ∃ (l c : Addr) (o : So) (x : Str), vs = [.ref l, .ref c] ∧ H l = some (.tup o.vs) ∧ H c = some (.lst [.str x]) ∧ o.ok ∧ (∀ i, o.s = some i → i = 0) ∧ x.length ≤ 1000 ∧ Q (.str (o.over x)) H
def spFree : Sp := fun vs H Q _ => ∃ (b : Addr) (z : Str), vs = [.ref b, .str z] ∧ B2 H b ∧ 0 < z.length ∧ z.length < 1000 ∧ wordB z = true ∧
  ∀ (p : Addr) (o : So) (H' : Hp), Dr b H H' → H' p = some (.tup o.vs) → o.ok → Q (.ref p) H'
def spSetOf (C : Addr) : Sp := fun vs H Q _ => ∃ (l : Addr) (o : So), vs = [.ref l] ∧ H l = some (.tup o.vs) ∧ o.ok ∧ ∀ (p : Addr) (H' : Hp), Same H H' → H p = none → SetAt C H' p o → Q (.ref p) H'
theorem kit_same {K : PySem.W.Frag} {C : Addr} : PySem.W.kitOne K (.ref C) (.ref C) = some true := by
  unfold PySem.W.kitOne
  rw [if_pos (by simp)]
theorem kit_ty {K : PySem.W.Frag} {C : Addr} {n : String} {r : Bool} (h1 : PySem.W.subIn K (.type n) (.ref C) = some r) (h2 : PySem.W.isClsIn K C = true)
    (h3 : PySem.W.typeIn K (.ref C) = some (.type "type")) : PySem.W.kitOne K (.type n) (.ref C) = some r := by
  unfold PySem.W.kitOne
  rw [if_neg (by simp)]
  have h2' : (PySem.W.clsIn K C).isSome = true := h2
  show (if ((PySem.W.clsIn K C).isSome && PySem.W.typeIn K (.ref C) == some (.type "type")) = true then PySem.W.subIn K (.type n) (.ref C) else none) = some r
  rw [h2', h3, if_pos (by simp)]
  exact h1

section
theorem ok_Setting_init {K : PySem.W.Frag} {mg : Str → Option Value} {A0 : Ad} {P : Program} {w : World} {base : Heap} (T : Txt K mg A0) : FnOk P w K mg base CX0 4 A0.f_Setting_init A0.d_Setting_init ["self", "source", "head", "tail", "is_turned"] (spInit0 A0.c_Setting) := by
  have Gfirst_wrong := ok_first_wrong (P := P) (w := w) (base := base) T
  refine T.F_Setting_init.ok sc_Setting_init (fun vs H Q E h => ?_) (fun cdv A outer s H vs Q E hr h => ?_)
  · obtain ⟨p, dx, o, rfl, hp, hk, kk⟩ := h
    rfl
  · obtain ⟨p, dx, o, rfl, hp, hk, kk⟩ := h
    have hr_first_wrong : Room 3 _ := hr.mono (by decide)
    refine ⟨_, (pss_cons (ps_set (i := 5) sc_Setting_init.nd rfl (Or.inl rfl) (pe_call Gfirst_wrong hr_first_wrong rfl T.g_first_wrong T.k_first_wrong T.b_first_wrong .nil pass0 (pa_cons (pv 1) (pa_cons (pv 2) (pa_cons (pv 3) (pa_cons (pv 4) pa_nil))))))
      (pss_cons (ps_if (pt_cmpR op_notN (pv 5) pe_non (nomark _)) (pss_one ps_never) pss_nil)
      (pss_cons (ps_fld (pv 0) (pv 1) rfl)
      (pss_cons (ps_fld (pv 0) (pv 2) rfl)
      (pss_cons (ps_fld (pv 0) (pv 3) rfl)
      (pss_one (ps_fld (pv 0) (pv 4) rfl))))))), ?_⟩
    obtain ⟨tg, as⟩ := o.av (H := H)
    have ah : Av H (.str o.h) _ := .str o.h ⟨word_abc hk.wh, Nat.le_trans hk.lh (by decide)⟩
    have at_ : Av H (.str o.t) _ := .str o.t ⟨word_abc hk.wt, Nat.le_trans hk.lt (by decide)⟩
    refine ⟨_, rfl, _, rfl, _, rfl, _, rfl, o.sv, _, _, _, _, _, _, _, rfl, as, ah, at_, .bl o.u, fun H1 s1 => ?_⟩
    have hp1 := s1 _ _ hp
    rw [So.fw_ok hk]
    refine ⟨_, rfl, rfl, _, rfl, iteNS rfl ?_⟩
    refine ⟨_, rfl, _, rfl, p, _, dx, _, rfl, hp1, T.cl_Setting, T.n_Setting_source, (by show 0 < 1000; decide), ?_⟩
    refine ⟨_, rfl, _, rfl, p, _, dx, _, rfl, upd_same, T.cl_Setting, T.n_Setting_head, few (few0 (Nat.zero_le 4)) (by decide), ?_⟩
    refine ⟨_, rfl, _, rfl, p, _, dx, _, rfl, upd_same, T.cl_Setting, T.n_Setting_tail, few (few0 (few0 (Nat.zero_le 4))) (by decide), ?_⟩
    refine ⟨_, rfl, _, rfl, p, _, dx, _, rfl, upd_same, T.cl_Setting, T.n_Setting_is_turned, few (few0 (few0 (few0 (Nat.zero_le 4)))) (by decide), ?_⟩
    refine kk _ (fun b o nb q => ?_) ⟨dx, upd_same⟩
    rw [upd_ne nb, upd_ne nb, upd_ne nb, upd_ne nb]
    exact s1 _ _ q

end
end My

namespace My
open PySem PySem.Spec PyProof.Rows L2

local macro_rules | `(tactic| walk_at "rd") => `(tactic| (repeat (first
  | (refine ⟨_, rfl, ?_⟩) | (refine ⟨_, _, rfl, rfl, ?_⟩) | (refine ⟨_, _, rfl, ?_⟩) | (refine ⟨rfl, ?_⟩) | (refine ⟨⟨_, rfl⟩, ?_⟩)
  | (refine ⟨.inl (by decide), ?_⟩) | (refine ⟨.inr (by decide), ?_⟩) | (refine ⟨⟨by decide, by decide⟩, ?_⟩) | (refine ⟨⟨by decide, by decide, by decide⟩, ?_⟩) | (refine ⟨by decide, ?_⟩)
  | (refine ⟨(by show (0 : Int) < _; decide), ?_⟩)
  | (refine ⟨le_line rfl, ?_⟩) | (refine .inl ⟨_, rfl, ?_⟩) | (refine ⟨_, _, _, _, rfl, rfl, SqL.of (by assumption), rfl, ?_⟩))))


theorem iteT' {b : Bool} {A B : Prop} (h : b = true) (q : A) : if b = true then A else B := by rw [if_pos h]; exact q
theorem iteF' {b : Bool} {A B : Prop} (h : b = false) (q : B) : if b = true then A else B := by rw [if_neg (by rw [h]; decide)]; exact q

theorem log_small {i : Int} (h0 : 0 ≤ i) (h : i < 1000) : i.natAbs.log2 < 1920 := by
  exact Nat.lt_of_le_of_lt (Nat.log2_le_self _) (by omega)
theorem int_len {i : Int} (h0 : 0 ≤ i) (h : i < 1000) : (PySem.Str.ofString (toString i)).length ≤ 4 := by
  rw [PySem.ofString_length]; exact PySem.int_text_length_le10 (k := 3) (by decide) (by omega)
theorem app_assoc (a b c : Str) : a ++ b ++ c = a ++ (b ++ c) := str_ext (by rw [app_cps, app_cps, app_cps, app_cps, List.append_assoc])
theorem emp_app (a : Str) : Str.empty ++ a = a := str_ext (by rw [app_cps]; rfl)
theorem app_emp (a : Str) : a ++ Str.empty = a := str_ext (by rw [app_cps]; exact List.append_nil _)
theorem So.txt_none {o : So} (e : o.s = none) (e1 : o.t = Str.empty) : o.txt = Str.empty ++ o.h ++ (".-." : Str) := by
  unfold So.txt
  rw [e, e1, emp_app]
  show o.h ++ "." ++ "-" ++ "." ++ Str.empty = _
  rw [app_emp, app_assoc, app_assoc]
  exact congrArg (o.h ++ ·) (by decide +kernel)
theorem So.txt_t {o : So} {i : Int} (e : o.s = some i) (e1 : o.u = true) : o.txt = Str.empty ++ o.h ++ (".~" : Str) ++ (toString i : String) ++ ("." : Str) ++ o.t := by
  unfold So.txt
  rw [e, emp_app]
  show o.h ++ "." ++ ((if o.u = true then ("~" : Str) else Str.empty) ++ (toString i : String)) ++ "." ++ o.t = _
  rw [e1, if_pos rfl, app_assoc o.h, ← app_assoc ("." : Str)]
  rw [show ("." : Str) ++ ("~" : Str) = (".~" : Str) by decide +kernel, ← app_assoc o.h]
theorem So.txt_f {o : So} {i : Int} (e : o.s = some i) (e1 : o.u = false) : o.txt = Str.empty ++ o.h ++ ("." : Str) ++ (toString i : String) ++ ("." : Str) ++ o.t := by
  unfold So.txt
  rw [e, emp_app]
  show o.h ++ "." ++ ((if o.u = true then ("~" : Str) else Str.empty) ++ (toString i : String)) ++ "." ++ o.t = _
  rw [e1, if_neg (by decide), emp_app]

section
theorem ok_Setting_over {K : PySem.W.Frag} {mg : Str → Option Value} {A0 : Ad} {P : Program} {w : World} {base : Heap} (T : Txt K mg A0) : FnOk P w K mg base CX0 1 A0.f_Setting_over A0.d_Setting_over ["self", "text"] (spOver A0.c_Setting) := by
  refine T.F_Setting_over.ok sc_Setting_over (fun vs H Q E h => ?_) (fun cdv A outer s H vs Q E hr h => ?_)
  · obtain ⟨a, x, o, rfl, hs, hk, hx, kk⟩ := h
    rfl
  · obtain ⟨a, x, o, rfl, hs, hk, hx, kk⟩ := h
    refine ⟨_, (pss_cons (ps_if (pt_cmpR op_isN (pe_fld (pv 0) rfl) pe_non (nomark _)) (pss_one (ps_ret (pe_fld (pv 0) rfl))) pss_nil)
      (pss_cons (ps_set (i := 2) sc_Setting_over.nd rfl (Or.inl rfl) (pe_ifExp (pt_val (pe_fld (pv 0) rfl)) (pe_revS (pv 1) (pe_un un_neg pe_int)) (pv 1)))
      (pss_one (ps_ret (pe_op op_add_str (pe_op op_add_str (pe_fld (pv 0) rfl) (pv 2)) (pe_fld (pv 0) rfl)))))), ?_⟩
    obtain ⟨dx, ha⟩ := hs
    have oe : o.sv = (match o.s with | none => .non | some i => .int i) := rfl
    refine ⟨_, rfl, a, _, dx, _, _, rfl, ha, T.cl_Setting, T.n_Setting_source, o.l1, ?_⟩
    refine ⟨rfl, _, rfl, ?_⟩
    have hl := hk.lh
    have h2 := hk.lt
    have h3 := rev_len x
    cases es : o.s with
    | none =>
      rw [es] at oe
      refine iteT' (decide_eq_true oe) ?_
      refine ⟨_, rfl, a, _, dx, _, _, rfl, ha, T.cl_Setting, T.n_Setting_head, o.l2, ?_⟩
      have : o.over x = o.h := by unfold So.over; rw [es]
      rw [this] at kk
      exact kk
    | some i =>
      rw [es] at oe
      refine iteF' (decide_eq_false (by rw [oe]; exact fun z => nomatch z)) ?_
      have : o.over x = o.h ++ (if o.u = true then revS x else x) ++ o.t := by unfold So.over; rw [es]
      rw [this] at kk
      refine ⟨_, rfl, a, _, dx, _, _, rfl, ha, T.cl_Setting, T.n_Setting_is_turned, o.l4, ?_⟩
      cases eu : o.u with
      | true =>
        rw [eu, if_pos rfl] at kk
        refine ⟨_, rfl, _, rfl, _, rfl, rfl, x, rfl, le_lineN (by omega), ?_⟩
        refine ⟨_, rfl, a, _, dx, _, _, rfl, ha, T.cl_Setting, T.n_Setting_head, o.l2, _, rfl, _, _, rfl, rfl, le_lineN (by omega), ?_⟩
        refine ⟨_, rfl, a, _, dx, _, _, rfl, ha, T.cl_Setting, T.n_Setting_tail, o.l3, _, _, rfl, rfl, le_lineN (by rw [app_len]; omega), ?_⟩
        exact kk
      | false =>
        rw [eu, if_neg (by decide)] at kk
        refine ⟨_, rfl, _, rfl, _, rfl, a, _, dx, _, _, rfl, ha, T.cl_Setting, T.n_Setting_head, o.l2, _, rfl, _, _, rfl, rfl, le_lineN (by omega), ?_⟩
        refine ⟨_, rfl, a, _, dx, _, _, rfl, ha, T.cl_Setting, T.n_Setting_tail, o.l3, _, _, rfl, rfl, le_lineN (by rw [app_len]; omega), ?_⟩
        exact kk

theorem ok_Setting_eq {K : PySem.W.Frag} {mg : Str → Option Value} {A0 : Ad} {P : Program} {w : World} {base : Heap} (T : Txt K mg A0) : FnOk P w K mg base CX0 1 A0.f_Setting_eq A0.d_Setting_eq ["self", "other"] (spEq A0.c_Setting) := by
  refine T.F_Setting_eq.ok sc_Setting_eq (fun vs H Q E h => ?_) (fun cdv A outer s H vs Q E hr h => ?_)
  · obtain ⟨a, v, o, r, rfl, hs, ho, kk⟩ := h
    rfl
  · obtain ⟨a, v, o, r, rfl, hs, ho, kk⟩ := h
    refine ⟨_, (pss_one (ps_ret (pe_and (pe_callB call_isi (by rfl) T.z_isinstance (by decide +kernel) (pa_cons (pv 1) (pa_cons (pe_glob (v := .ref A0.c_Setting) rfl T.g_Setting rfl) pa_nil))) (pe_and (pe_cmpR op_eq (pe_fld (pv 0) rfl) (pe_fld (pv 1) rfl) (nomark _)) (pe_and (pe_cmpR op_eq (pe_fld (pv 0) rfl) (pe_fld (pv 1) rfl) (nomark _)) (pe_and (pe_cmpR op_eq (pe_fld (pv 0) rfl) (pe_fld (pv 1) rfl) (nomark _)) (pe_one (pe_cmpR op_eq (pe_fld (pv 0) rfl) (pe_fld (pv 1) rfl) (nomark _))))))))), ?_⟩
    obtain ⟨dx, ha⟩ := hs
    cases ho with
    | set e =>
      rename_i b p
      obtain ⟨dy, hb⟩ := e
      walk_at "rd"
      refine ⟨_, _, _, _, _, rfl, .own _, .base (.ins hb T.cl_Setting T.r_ca T.r_cn T.r_ct T.r_mo), kit_same, _, rfl, ?_⟩
      refine iteT' rfl ?_
      have sc1 : scal o.sv p.sv = true := by
        unfold So.sv
        cases o.s <;> cases p.s <;> rfl
      unfold So.same at kk
      refine ⟨_, rfl, a, _, dx, _, _, rfl, ha, T.cl_Setting, T.n_Setting_source, o.l1, _, rfl, b, _, dy, _, _, rfl, hb, T.cl_Setting, T.n_Setting_source, p.l1, sc1, _, rfl, ?_⟩
      by_cases e1 : o.sv = p.sv
      · rw [decide_eq_true e1] at kk
        refine iteT' (decide_eq_true e1) ?_
        refine ⟨_, rfl, a, _, dx, _, _, rfl, ha, T.cl_Setting, T.n_Setting_head, o.l2, _, rfl, b, _, dy, _, _, rfl, hb, T.cl_Setting, T.n_Setting_head, p.l2, rfl, _, rfl, ?_⟩
        by_cases e2 : o.h = p.h
        · rw [decide_eq_true e2] at kk
          refine iteT' (decide_eq_true (by rw [e2])) ?_
          refine ⟨_, rfl, a, _, dx, _, _, rfl, ha, T.cl_Setting, T.n_Setting_tail, o.l3, _, rfl, b, _, dy, _, _, rfl, hb, T.cl_Setting, T.n_Setting_tail, p.l3, rfl, _, rfl, ?_⟩
          by_cases e3 : o.t = p.t
          · rw [decide_eq_true e3] at kk
            refine iteT' (decide_eq_true (by rw [e3])) ?_
            refine ⟨_, rfl, a, _, dx, _, _, rfl, ha, T.cl_Setting, T.n_Setting_is_turned, o.l4, _, rfl, b, _, dy, _, _, rfl, hb, T.cl_Setting, T.n_Setting_is_turned, p.l4, rfl, ?_⟩
            have : decide (V.bl o.u = V.bl p.u) = decide (o.u = p.u) := by
              by_cases e4 : o.u = p.u
              · rw [decide_eq_true e4, decide_eq_true (by rw [e4])]
              · rw [decide_eq_false e4, decide_eq_false (fun z => e4 (V.bl.inj z))]
            rw [this]
            exact kk
          · rw [decide_eq_false e3] at kk
            refine iteF' (decide_eq_false (fun z => e3 (V.str.inj z))) ?_
            exact kk
        · rw [decide_eq_false e2] at kk
          refine iteF' (decide_eq_false (fun z => e2 (V.str.inj z))) ?_
          exact kk
      · rw [decide_eq_false e1] at kk
        refine iteF' (decide_eq_false e1) ?_
        exact kk
    | str z =>
      walk_at "rd"
      refine ⟨_, _, _, _, _, rfl, .own _, .base (.str _), kit_ty T.r_t1 T.r_ic T.r_ik, _, rfl, ?_⟩
      exact iteF' rfl kk
    | non =>
      walk_at "rd"
      refine ⟨_, _, _, _, _, rfl, .own _, .base .non, kit_ty T.r_t2 T.r_ic T.r_ik, _, rfl, ?_⟩
      exact iteF' rfl kk
    | tup e =>
      walk_at "rd"
      refine ⟨_, _, _, _, _, rfl, .own _, .base (.tup e), kit_ty T.r_t3 T.r_ic T.r_ik, _, rfl, ?_⟩
      exact iteF' rfl kk

theorem ok_Setting_str {K : PySem.W.Frag} {mg : Str → Option Value} {A0 : Ad} {P : Program} {w : World} {base : Heap} (T : Txt K mg A0) : FnOk P w K mg base CX0 1 A0.f_Setting_str A0.d_Setting_str ["self"] (spStr A0.c_Setting) := by
  refine T.F_Setting_str.ok sc_Setting_str (fun vs H Q E h => ?_) (fun cdv A outer s H vs Q E hr h => ?_)
  · obtain ⟨a, o, rfl, hs, hk, kk⟩ := h
    rfl
  · obtain ⟨a, o, rfl, hs, hk, kk⟩ := h
    refine ⟨_, (pss_cons (ps_if (pt_cmpR op_isN (pe_fld (pv 0) rfl) pe_non (nomark _)) (pss_one (ps_ret (pe_joined (.cons (pe_fmt (pe_fld (pv 0) rfl)) (.cons pe_str .nil))))) pss_nil)
      (pss_cons (ps_if (pt_val (pe_fld (pv 0) rfl)) (pss_one (ps_ret (pe_joined (.cons (pe_fmt (pe_fld (pv 0) rfl)) (.cons pe_str (.cons (pe_fmt (pe_fld (pv 0) rfl)) (.cons pe_str (.cons (pe_fmt (pe_fld (pv 0) rfl)) .nil)))))))) pss_nil)
      (pss_one (ps_ret (pe_joined (.cons (pe_fmt (pe_fld (pv 0) rfl)) (.cons pe_str (.cons (pe_fmt (pe_fld (pv 0) rfl)) (.cons pe_str (.cons (pe_fmt (pe_fld (pv 0) rfl)) .nil)))))))))), ?_⟩
    obtain ⟨dx, ha⟩ := hs
    have oe : o.sv = (match o.s with | none => .non | some i => .int i) := rfl
    refine ⟨_, rfl, a, _, dx, _, _, rfl, ha, T.cl_Setting, T.n_Setting_source, o.l1, ?_⟩
    refine ⟨rfl, _, rfl, ?_⟩
    have hl := hk.lh
    have h2 := hk.lt
    have l0 : (Str.empty ++ o.h).length ≤ 3 := by rw [emp_app]; exact hl
    cases es : o.s with
    | none =>
      rw [es] at oe
      refine iteT' (decide_eq_true oe) ?_
      obtain ⟨e0, _⟩ := hk.no es
      rw [So.txt_none es e0] at kk
      refine ⟨_, rfl, a, _, dx, _, _, rfl, ha, T.cl_Setting, T.n_Setting_head, o.l2, .inl ⟨_, rfl, le_lineN (by omega), _, rfl, le_lineN (by omega), ?_⟩⟩
      refine ⟨_, rfl, le_lineN ?_, kk⟩
      rw [app_len, show (Str.ofString ".-.").length = 3 by decide +kernel]
      omega
    | some i =>
      rw [es] at oe
      obtain ⟨i0, i1⟩ := hk.lo i es
      have lg : i.natAbs.log2 < 1920 := log_small i0 (by omega)
      have li := int_len i0 (by omega)
      refine iteF' (decide_eq_false (by rw [oe]; exact fun z => nomatch z)) ?_
      refine ⟨_, rfl, a, _, dx, _, _, rfl, ha, T.cl_Setting, T.n_Setting_is_turned, o.l4, ?_⟩
      refine ⟨_, rfl, ?_⟩
      cases eu : o.u with
      | true =>
        rw [So.txt_t es eu] at kk
        have l1 : (Str.empty ++ o.h ++ (".~" : Str)).length ≤ 5 := by rw [app_len, show (".~" : Str).length = 2 by decide +kernel]; omega
        have l2 : (Str.empty ++ o.h ++ (".~" : Str) ++ (toString i : String)).length ≤ 9 := by rw [app_len]; omega
        have l3 : (Str.empty ++ o.h ++ (".~" : Str) ++ (toString i : String) ++ ("." : Str)).length ≤ 10 := by rw [app_len, show ("." : Str).length = 1 by decide +kernel]; omega
        refine iteT' rfl ?_
        refine ⟨_, rfl, a, _, dx, _, _, rfl, ha, T.cl_Setting, T.n_Setting_head, o.l2, .inl ⟨_, rfl, le_lineN (by omega), _, rfl, le_lineN (by omega), ?_⟩⟩
        refine ⟨_, rfl, le_lineN (Nat.le_trans l1 (by decide)), ?_⟩
        refine ⟨_, rfl, a, _, dx, _, _, rfl, ha, T.cl_Setting, T.n_Setting_source, o.l1, .inr ⟨i, oe, lg, _, rfl, le_lineN (Nat.le_trans l2 (by decide)), ?_⟩⟩
        refine ⟨_, rfl, le_lineN (Nat.le_trans l3 (by decide)), ?_⟩
        refine ⟨_, rfl, a, _, dx, _, _, rfl, ha, T.cl_Setting, T.n_Setting_tail, o.l3, .inl ⟨_, rfl, le_lineN (by omega), _, rfl, le_lineN (by rw [app_len]; exact Nat.le_trans (Nat.add_le_add l3 h2) (by decide)), ?_⟩⟩
        exact kk
      | false =>
        rw [So.txt_f es eu] at kk
        have l1 : (Str.empty ++ o.h ++ ("." : Str)).length ≤ 4 := by rw [app_len, show ("." : Str).length = 1 by decide +kernel]; omega
        have l2 : (Str.empty ++ o.h ++ ("." : Str) ++ (toString i : String)).length ≤ 8 := by rw [app_len]; omega
        have l3 : (Str.empty ++ o.h ++ ("." : Str) ++ (toString i : String) ++ ("." : Str)).length ≤ 9 := by rw [app_len, show ("." : Str).length = 1 by decide +kernel]; omega
        refine iteF' rfl ?_
        refine ⟨_, rfl, a, _, dx, _, _, rfl, ha, T.cl_Setting, T.n_Setting_head, o.l2, .inl ⟨_, rfl, le_lineN (by omega), _, rfl, le_lineN (by omega), ?_⟩⟩
        refine ⟨_, rfl, le_lineN (Nat.le_trans l1 (by decide)), ?_⟩
        refine ⟨_, rfl, a, _, dx, _, _, rfl, ha, T.cl_Setting, T.n_Setting_source, o.l1, .inr ⟨i, oe, lg, _, rfl, le_lineN (Nat.le_trans l2 (by decide)), ?_⟩⟩
        refine ⟨_, rfl, le_lineN (Nat.le_trans l3 (by decide)), ?_⟩
        refine ⟨_, rfl, a, _, dx, _, _, rfl, ha, T.cl_Setting, T.n_Setting_tail, o.l3, .inl ⟨_, rfl, le_lineN (by omega), _, rfl, le_lineN (by rw [app_len]; exact Nat.le_trans (Nat.add_le_add l3 h2) (by decide)), ?_⟩⟩
        exact kk

end
end My

namespace My
open PySem PySem.Spec PyProof.Rows L2

local macro_rules | `(tactic| walk_at "rd") => `(tactic| (repeat (first
  | (refine ⟨_, rfl, ?_⟩) | (refine ⟨_, _, rfl, rfl, ?_⟩) | (refine ⟨_, _, rfl, ?_⟩) | (refine ⟨rfl, ?_⟩) | (refine ⟨⟨_, rfl⟩, ?_⟩)
  | (refine ⟨.inl (by decide), ?_⟩) | (refine ⟨.inr (by decide), ?_⟩) | (refine ⟨⟨by decide, by decide⟩, ?_⟩) | (refine ⟨⟨by decide, by decide, by decide⟩, ?_⟩) | (refine ⟨by decide, ?_⟩)
  | (refine ⟨(by show (0 : Int) < _; decide), ?_⟩)
  | (refine ⟨le_line rfl, ?_⟩) | (refine .inl ⟨_, rfl, ?_⟩) | (refine ⟨_, _, _, _, rfl, rfl, SqL.of (by assumption), rfl, ?_⟩))))

section
theorem ok_seed {K : PySem.W.Frag} {mg : Str → Option Value} {A0 : Ad} {P : Program} {w : World} {base : Heap} (T : Txt K mg A0) : FnOk P w K mg base CX0 1 A0.f_seed A0.d_seed ["_law_script", "_law_k"] (spSeed K) := by
  refine T.F_seed.ok sc_seed (fun vs H Q E h => ?_) (fun cdv A outer s H vs Q E hr h => ?_)
  · obtain ⟨a, ns, k, rfl, hS, hlen, hk0, hk1, kk⟩ := h
    rfl
  · obtain ⟨a, ns, k, rfl, hS, hlen, hk0, hk1, kk⟩ := h
    refine ⟨_, (pss_cons (ps_set (i := 2) sc_seed.nd rfl (Or.inl rfl) (pe_op op_add (pe_op op_mul pe_int (pv 1)) pe_int))
      (pss_cons (ps_if (pt_cmpR op_lt (pv 1) (pe_callB call_len_seq (by rfl) T.z_len (by decide +kernel) (pa_cons (pv 0) pa_nil)) (nomark _)) (pss_one (ps_set (i := 2) sc_seed.nd rfl (Or.inl rfl) (pe_callB call_abs (by rfl) T.z_abs (by decide +kernel) (pa_cons (pe_ix ix_list (pv 0) (pv 1) (fun _ _ => rfl)) pa_nil)))) (pss_one (ps_if (pt_cmpR op_gt (pe_callB call_len_seq (by rfl) T.z_len (by decide +kernel) (pa_cons (pv 0) pa_nil)) pe_int (nomark _)) (pss_one (ps_set (i := 2) sc_seed.nd rfl (Or.inl rfl) (pe_op op_add (pv 2) (pe_op op_mul (pe_op op_mod (pe_callTy call_int1 (by rfl) T.z_int (by decide +kernel) (pa_cons (pe_callB call_abs (by rfl) T.z_abs (by decide +kernel) (pa_cons (pe_ix ix_list (pv 0) (pe_op op_mod (pe_callTy call_int1 (by rfl) T.z_int (by decide +kernel) (pa_cons (pv 1) pa_nil)) (pe_callB call_len_seq (by rfl) T.z_len (by decide +kernel) (pa_cons (pv 0) pa_nil))) (fun _ _ => rfl)) pa_nil)) pa_nil)) pe_int) pe_int)))) pss_nil)))
      (pss_cons (ps_set (i := 3) sc_seed.nd rfl (Or.inl rfl) (pe_ifExp (pt_cmpR op_ge (pv 2) (pe_op op_pow pe_int pe_int) (nomark _)) (pv 2) pe_int))
      (pss_one (ps_ret (pe_lst (pa_cons (pv 3) (pa_cons (pe_op op_add (pe_op op_mod (pe_callTy call_int1 (by rfl) T.z_int (by decide +kernel) (pa_cons (pe_op op_add (pe_op op_mul (pe_op op_mod (pe_callTy call_int1 (by rfl) T.z_int (by decide +kernel) (pa_cons (pv 2) pa_nil)) pe_int) pe_int) (pe_op op_mul pe_int (pv 1))) pa_nil)) pe_int) pe_int) pa_nil)))))))), ?_⟩
    have hl : ((ns.map V.int).length : Int) = ns.length := by rw [List.length_map]
    have fin : ∀ (p : Addr) (g r : Int), H p = none → Q (.ref p) (upd H p (.lst [.int g, .int r])) := kk
    walk_at "rd"
    refine ⟨_, _, rfl, .inl hS, ?_⟩
    walk_at "rd"
    rw [hl]
    refine ite2 (fun h1 => ?_) (fun h1 => ?_)
    · obtain ⟨n, en⟩ := at_ints hk0 (of_decide_eq_true h1)
      refine ⟨_, rfl, _, rfl, _, _, k, .int n, rfl, rfl, hS, en, ?_⟩
      walk_at "rd"
      refine ite2 (fun h2 => ?_) (fun h2 => ?_) <;> (walk_at "rd"; exact fun p np => kk p _ _ np)
    · walk_at "rd"
      refine ⟨_, _, rfl, .inl hS, ?_⟩
      walk_at "rd"
      rw [hl]
      refine ite2 (fun h3 => ?_) (fun h3 => ?_)
      · have h3' : (0 : Int) < ns.length := of_decide_eq_true h3
        walk_at "rd"
        refine ⟨_, _, rfl, .inl hS, ?_⟩
        walk_at "rd"
        rw [hl]
        obtain ⟨n, en⟩ := at_ints (ns := ns) (k := k % (ns.length : Int)) (Int.emod_nonneg _ (by omega)) (Int.emod_lt_of_pos _ h3')
        refine ⟨h3', _, _, _, .int n, rfl, rfl, hS, en, ?_⟩
        walk_at "rd"
        refine ite2 (fun h2 => ?_) (fun h2 => ?_) <;> (walk_at "rd"; exact fun p np => kk p _ _ np)
      · walk_at "rd"
        refine ite2 (fun h2 => ?_) (fun h2 => ?_) <;> (walk_at "rd"; exact fun p np => kk p _ _ np)

theorem ok_choose {K : PySem.W.Frag} {mg : Str → Option Value} {A0 : Ad} {P : Program} {w : World} {base : Heap} (T : Txt K mg A0) : FnOk P w K mg base CX0 1 A0.f_choose A0.d_choose ["_law_box", "_law_many"] (spChoose) := by
  refine T.F_choose.ok sc_choose (fun vs H Q E h => ?_) (fun cdv A outer s H vs Q E hr h => ?_)
  · obtain ⟨b, m, rfl, hB, hm0, hm1, kk⟩ := h
    rfl
  · obtain ⟨b, m, rfl, hB, hm0, hm1, kk⟩ := h
    refine ⟨_, (pss_cons (ps_if (pt_cmpR op_gt (pe_ix ix_list (pv 0) pe_int (fun _ _ => rfl)) pe_int (nomark _)) (pss_cons (ps_set (i := 2) sc_choose.nd rfl (Or.inl rfl) (pe_op op_mod (pe_callTy call_int1 (by rfl) T.z_int (by decide +kernel) (pa_cons (pe_ix ix_list (pv 0) pe_int (fun _ _ => rfl)) pa_nil)) (pv 1)))
      (pss_cons (ps_asg (pe_op op_fdiv (pe_ix ix_list (pv 0) pe_int (fun _ _ => rfl)) (pv 1)) (pg_sub (pv 0) pe_int set_list))
      (pss_one (ps_ret (pv 2))))) pss_nil)
      (pss_cons (ps_set (i := 3) sc_choose.nd rfl (Or.inl rfl) (pe_op op_mod (pe_callTy call_int1 (by rfl) T.z_int (by decide +kernel) (pa_cons (pe_op op_add (pe_op op_mul (pe_ix ix_list (pv 0) pe_int (fun _ _ => rfl)) pe_int) pe_int) pa_nil)) pe_int))
      (pss_cons (ps_asg (pe_op op_add (pe_op op_mod (pe_callTy call_int1 (by rfl) T.z_int (by decide +kernel) (pa_cons (pe_op op_add (pe_op op_mul (pv 3) pe_int) pe_int) pa_nil)) pe_int) pe_int) (pg_sub (pv 0) pe_int set_list))
      (pss_one (ps_ret (pe_op op_mod (pe_callTy call_int1 (by rfl) T.z_int (by decide +kernel) (pa_cons (pe_op op_fdiv (pe_op op_add (pe_op op_mul (pv 3) pe_int) (pe_ix ix_list (pv 0) pe_int (fun _ _ => rfl))) pe_int) pa_nil)) (pv 1))))))), ?_⟩
    obtain ⟨g, r, hb⟩ := hB
    have fr : ∀ (H' : Hp), (∀ a o, H a = some o → a ≠ b → H' a = some o) → H' b ≠ none → ∀ p, H' p = none → H p = none := fun H' k1 k2 p np => by
      cases q : H p with
      | none => rfl
      | some o =>
        by_cases e : p = b
        · exact absurd (e ▸ np) k2
        · rw [k1 p o q e] at np
          cases np
    have two : ∀ (x y : Int) (xs : List V), xs = [.int x, .int y] → ∃ g' r' : Int, xs = [.int g', .int r'] := fun x y xs e => ⟨x, y, e⟩
    walk_at "rd"
    refine ite2 (fun hg => ?_) (fun hg => ?_)
    · walk_at "rd"
      refine ⟨hm0, ?_⟩
      walk_at "rd"
      refine ⟨⟨hm0, by show m < 1073741824; omega⟩, ?_⟩
      walk_at "rd"
      refine ⟨b, _, 0, 0, rfl, rfl, hb, rfl, ?_⟩
      walk_at "rd"
      exact kk _ _ (Dr.put (g / m) r) (Int.emod_nonneg _ (by omega)) (Int.emod_lt_of_pos _ hm0) (fr _ (fun a o e n => by rw [upd_ne n]; exact e) (by rw [upd_same]; exact fun z => nomatch z))
    · walk_at "rd"
      refine ⟨b, _, 1, 1, rfl, rfl, hb, rfl, ?_⟩
      walk_at "rd"
      refine ⟨_, _, _, _, rfl, rfl, SqL.of upd_same, rfl, ?_⟩
      walk_at "rd"
      refine ⟨hm0, ?_⟩
      exact kk _ _ (Dr.put g _) (Int.emod_nonneg _ (by omega)) (Int.emod_lt_of_pos _ hm0) (fr _ (fun a o e n => by rw [upd_ne n]; exact e) (by rw [upd_same]; exact fun z => nomatch z))

theorem ok_one_of {K : PySem.W.Frag} {mg : Str → Option Value} {A0 : Ad} {P : Program} {w : World} {base : Heap} (T : Txt K mg A0) : FnOk P w K mg base CX0 2 A0.f_one_of A0.d_one_of ["_law_box", "_law_some"] (spOne K) := by
  have Gchoose := ok_choose (P := P) (w := w) (base := base) T
  refine T.F_one_of.ok sc_one_of (fun vs H Q E h => ?_) (fun cdv A outer s H vs Q E hr h => ?_)
  · obtain ⟨b, p, xs, rfl, hB, hS, npb, hl0, hl1, kk⟩ := h
    rfl
  · obtain ⟨b, p, xs, rfl, hB, hS, npb, hl0, hl1, kk⟩ := h
    have hr_choose : Room 1 _ := hr.mono (by decide)
    refine ⟨_, (pss_one (ps_ret (pe_ix ix_list (pv 1) (pe_call Gchoose hr_choose rfl T.g_choose T.k_choose T.b_choose .nil pass0 (pa_cons (pv 0) (pa_cons (pe_callB call_len_seq (by rfl) T.z_len (by decide +kernel) (pa_cons (pv 1) pa_nil)) pa_nil))) (fun _ _ => rfl)))), ?_⟩
    walk_at "rd"
    refine ⟨_, _, rfl, .inl hS, ?_⟩
    refine ⟨b, (xs.length : Int), rfl, hB, by omega, by omega, fun d H' D d0 d1 _ => ?_⟩
    obtain ⟨v, ev, mv⟩ := at_some d0 d1
    exact ⟨_, _, _, v, rfl, rfl, D.sqL npb hS, ev, kk v H' D mv⟩

theorem ok_told {K : PySem.W.Frag} {mg : Str → Option Value} {A0 : Ad} {P : Program} {w : World} {base : Heap} (T : Txt K mg A0) : FnOk P w K mg base CX0 3 A0.f_told A0.d_told ["_law_box", "_law_marks", "_law_most"] (spTold) := by
  have Gone_of := ok_one_of (P := P) (w := w) (base := base) T
  have Gchoose := ok_choose (P := P) (w := w) (base := base) T
  refine T.F_told.ok sc_told (fun vs H Q E h => ?_) (fun cdv A outer s H vs Q E hr h => ?_)
  · obtain ⟨b, z, m, rfl, hB, hz0, hz1, hm0, hm1, kk⟩ := h
    rfl
  · obtain ⟨b, z, m, rfl, hB, hz0, hz1, hm0, hm1, kk⟩ := h
    have hr_one_of : Room 2 _ := hr.mono (by decide)
    have hr_choose : Room 1 _ := hr.mono (by decide)
    refine ⟨_, (pss_one (ps_ret (pe_join pe_str (pe_lc (own := [("_law_turn", 3)]) (g := gName 3) (tt := tYes) rfl sc_told.nd (pi_range1 (by rfl) T.z_range (pa_cons (pe_call Gchoose hr_choose rfl T.g_choose T.k_choose T.b_choose .nil pass0 (pa_cons (pv 0) (pa_cons (pe_op op_add (pv 2) pe_int) pa_nil))) pa_nil)) (blkOk_by (own := [("_law_turn", 3)]) (N := N_told) (sc := defScope s_told) (by decide +kernel)) (fun _ _ _ _ _ => (pg_name (i := 3) sc_told.nd rfl (Or.inl rfl))) (fun _ _ _ _ _ => pts_nil) (fun _ _ _ _ _ => by exact (pe_call Gone_of hr_one_of rfl T.g_one_of T.k_one_of T.b_one_of .nil pass0 (pa_cons (pv 0) (pa_cons (pe_callTy (cr_listStr rfl) (by rfl) T.z_list (by decide +kernel) (pa_cons (pv 1) pa_nil)) pa_nil)))))))), ?_⟩
    walk_at "rd"
    refine ⟨hB, by omega, by omega, fun d H1 D1 d0 d1 _ => ?_⟩
    refine ⟨d, rfl, by omega, by omega, fun L nL => ?_⟩
    have nLb : L ≠ b := D1.bx.ne nL
    refine lc_range (lo := 0) (n := d.toNat) (fun i H' => ∃ ys : List Str, Dr b H H' ∧ H' L = some (.lst (ys.map V.str)) ∧ ys.length = i ∧ ∀ y ∈ ys, OneOf z y)
      ⟨[], D1.trans (.same D1.bx (same_upd nL)), upd_same, rfl, fun y hy => by cases hy⟩ (fun i H2 hi P2 => ?_) (fun H2 P2 => ?_)
    · obtain ⟨ys, D2, eL, hy, ho⟩ := P2
      walk_at "rd"
      refine ⟨le_lineN (by omega), fun p np => ?_⟩
      have D3 : Dr b H (upd H2 p (.lst (sgn z))) := D2.trans (.same D2.bx (same_upd np))
      have nLp : L ≠ p := ne_of_none eL np
      refine ⟨b, p, sgn z, rfl, D3.bx, SqL.of upd_same, D2.bx.ne np, by rw [sgn_len]; exact hz0, by rw [sgn_len]; exact hz1, fun v H3 D4 mv => ?_⟩
      obtain ⟨y, rfl, oy⟩ := sgn_mem mv
      have e3 : H3 L = some (.lst (ys.map V.str)) := D4.kp _ _ nLb (by rw [upd_ne nLp]; exact eL)
      refine ⟨_, e3, by rw [List.length_map]; exact Nat.lt_of_lt_of_le (show ys.length < 1000 by omega) (le_line rfl), ys ++ [y], ?_, ?_, ?_, ?_⟩
      · refine ⟨fun a o n e => ?_, ?_⟩
        · rw [upd_ne (ne_of_none e (D1.free nL))]
          exact D4.kp _ _ n (D3.kp _ _ n e)
        · obtain ⟨g, r, eb⟩ := D4.bx
          exact ⟨g, r, by rw [upd_ne nLb.symm]; exact eb⟩
      · rw [upd_same, List.map_append]
        rfl
      · rw [List.length_append, hy]
        rfl
      · intro x hx
        rcases List.mem_append.mp hx with hx | hx
        · exact ho x hx
        · rw [List.mem_singleton.mp hx]
          exact oy
    · obtain ⟨ys, D2, eL, hy, ho⟩ := P2
      refine ⟨_, L, ys, rfl, rfl, .inl (SqL.of eL), ?_, ?_⟩
      · rw [ones_len ho]
        show ys.length + ys.length * 0 ≤ 16777216
        omega
      · obtain ⟨h1, h2⟩ := ones_join ho
        refine kk _ _ D2 ?_ h2
        show ((Txt.join ⟨#[]⟩ ys).length : Int) ≤ m
        rw [h1]
        omega

theorem ok_set_text {K : PySem.W.Frag} {mg : Str → Option Value} {A0 : Ad} {P : Program} {w : World} {base : Heap} (T : Txt K mg A0) : FnOk P w K mg base CX0 1 A0.f_set_text A0.d_set_text ["_law_one"] (spTxt) := by
  refine T.F_set_text.ok sc_set_text (fun vs H Q E h => ?_) (fun cdv A outer s H vs Q E hr h => ?_)
  · obtain ⟨l, o, rfl, hl, hk, kk⟩ := h
    rfl
  · obtain ⟨l, o, rfl, hl, hk, kk⟩ := h
    refine ⟨_, (pss_cons (ps_set (i := 1) sc_set_text.nd rfl (Or.inl rfl) (pe_ifExp (pt_cmpR op_isN (pe_ix ix_tup (pv 0) pe_int (fun _ _ => rfl)) pe_non (nomark _)) pe_str (pe_op op_add_str (pe_ifExp (pt_val (pe_ix ix_tup (pv 0) pe_int (fun _ _ => rfl))) pe_str pe_str) (pe_callTy call_str_int (by rfl) T.z_str (by decide +kernel) (pa_cons (pe_ix ix_tup (pv 0) pe_int (fun _ _ => rfl)) pa_nil)))))
      (pss_one (ps_ret (pe_op op_add_str (pe_op op_add_str (pe_op op_add_str (pe_op op_add_str (pe_ix ix_tup (pv 0) pe_int (fun _ _ => rfl)) pe_str) (pv 1)) pe_str) (pe_ix ix_tup (pv 0) pe_int (fun _ _ => rfl)))))), ?_⟩
    have hl3 := hk.lh
    have h2 := hk.lt
    have d1 : (Str.ofString ".").length = 1 := by decide +kernel
    refine ⟨_, rfl, l, o.vs, 0, o.sv, rfl, rfl, SqT.of hl, rfl, rfl, _, rfl, ?_⟩
    cases es : o.s with
    | none =>
      have oe : o.sv = .non := by unfold So.sv; rw [es]
      have tx : o.txt = o.h ++ "." ++ "-" ++ "." ++ o.t := by unfold So.txt; rw [es]
      rw [tx] at kk
      have d2 : (Str.ofString "-").length = 1 := by decide +kernel
      refine iteT' (decide_eq_true oe) ?_
      refine ⟨_, rfl, l, o.vs, 1, .str o.h, rfl, rfl, SqT.of hl, rfl, _, _, rfl, rfl, le_lineN (by rw [d1]; omega), ?_⟩
      refine ⟨_, rfl, _, _, rfl, rfl, le_lineN (by rw [app_len]; omega), ?_⟩
      refine ⟨_, _, rfl, rfl, le_lineN (by rw [app_len, app_len]; omega), ?_⟩
      refine ⟨_, rfl, l, o.vs, 2, .str o.t, rfl, rfl, SqT.of hl, rfl, _, _, rfl, rfl, le_lineN (by rw [app_len, app_len, app_len]; omega), ?_⟩
      exact kk
    | some i =>
      have oe : o.sv = .int i := by unfold So.sv; rw [es]
      obtain ⟨i0, i1⟩ := hk.lo i es
      have lg : i.natAbs.log2 < 1920 := log_small i0 (by omega)
      have li := int_len i0 (by omega)
      refine iteF' (decide_eq_false (by rw [oe]; exact fun z => nomatch z)) ?_
      refine ⟨_, rfl, l, o.vs, 3, .bl o.u, rfl, rfl, SqT.of hl, rfl, _, rfl, ?_⟩
      cases eu : o.u with
      | true =>
        have tx : o.txt = o.h ++ "." ++ (("~" : Str) ++ (toString i : String)) ++ "." ++ o.t := by
          unfold So.txt
          rw [es]
          show o.h ++ "." ++ ((if o.u = true then ("~" : Str) else Str.empty) ++ (toString i : String)) ++ "." ++ o.t = _
          rw [eu, if_pos rfl]
        rw [tx] at kk
        have d3 : (Str.ofString "~").length = 1 := by decide +kernel
        refine iteT' rfl ?_
        refine ⟨_, rfl, l, o.vs, 0, o.sv, rfl, rfl, SqT.of hl, rfl, i, by rw [oe], lg, _, _, rfl, rfl, le_lineN (by omega), ?_⟩
        have d2 : ((Str.ofString "~") ++ (toString i : String)).length ≤ 5 := by rw [app_len]; omega
        refine ⟨_, rfl, l, o.vs, 1, .str o.h, rfl, rfl, SqT.of hl, rfl, _, _, rfl, rfl, le_lineN (by rw [d1]; omega), ?_⟩
        refine ⟨_, rfl, _, _, rfl, rfl, le_lineN (by rw [app_len]; omega), ?_⟩
        refine ⟨_, _, rfl, rfl, le_lineN (by rw [app_len, app_len]; omega), ?_⟩
        refine ⟨_, rfl, l, o.vs, 2, .str o.t, rfl, rfl, SqT.of hl, rfl, _, _, rfl, rfl, le_lineN (by rw [app_len, app_len, app_len]; omega), ?_⟩
        exact kk
      | false =>
        have tx : o.txt = o.h ++ "." ++ ((Str.ofString "") ++ (toString i : String)) ++ "." ++ o.t := by
          unfold So.txt
          rw [es]
          show o.h ++ "." ++ ((if o.u = true then ("~" : Str) else Str.empty) ++ (toString i : String)) ++ "." ++ o.t = _
          rw [eu, if_neg (by decide)]
          rfl
        rw [tx] at kk
        have d3 : (Str.ofString "").length = 0 := by decide +kernel
        refine iteF' rfl ?_
        refine ⟨_, rfl, l, o.vs, 0, o.sv, rfl, rfl, SqT.of hl, rfl, i, by rw [oe], lg, _, _, rfl, rfl, le_lineN (by omega), ?_⟩
        have d2 : ((Str.ofString "") ++ (toString i : String)).length ≤ 5 := by rw [app_len]; omega
        refine ⟨_, rfl, l, o.vs, 1, .str o.h, rfl, rfl, SqT.of hl, rfl, _, _, rfl, rfl, le_lineN (by rw [d1]; omega), ?_⟩
        refine ⟨_, rfl, _, _, rfl, rfl, le_lineN (by rw [app_len]; omega), ?_⟩
        refine ⟨_, _, rfl, rfl, le_lineN (by rw [app_len, app_len]; omega), ?_⟩
        refine ⟨_, rfl, l, o.vs, 2, .str o.t, rfl, rfl, SqT.of hl, rfl, _, _, rfl, rfl, le_lineN (by rw [app_len, app_len, app_len]; omega), ?_⟩
        exact kk

theorem ok_over {K : PySem.W.Frag} {mg : Str → Option Value} {A0 : Ad} {P : Program} {w : World} {base : Heap} (T : Txt K mg A0) : FnOk P w K mg base CX0 1 A0.f_over A0.d_over ["_law_one", "_law_cells"] (spLOver K) := by
  refine T.F_over.ok sc_over (fun vs H Q E h => ?_) (fun cdv A outer s H vs Q E hr h => ?_)
  · obtain ⟨l, c, o, x, rfl, hl, hc, hk, hz, hx, kk⟩ := h
    rfl
  · obtain ⟨l, c, o, x, rfl, hl, hc, hk, hz, hx, kk⟩ := h
    refine ⟨_, (pss_cons (ps_if (pt_cmpR op_isN (pe_ix ix_tup (pv 0) pe_int (fun _ _ => rfl)) pe_non (nomark _)) (pss_one (ps_ret (pe_ix ix_tup (pv 0) pe_int (fun _ _ => rfl)))) pss_nil)
      (pss_cons (ps_set (i := 2) sc_over.nd rfl (Or.inl rfl) (pe_ix ix_list (pv 1) (pe_ix ix_tup (pv 0) pe_int (fun _ _ => rfl)) (fun _ _ => rfl)))
      (pss_one (ps_ret (pe_op op_add_str (pe_op op_add_str (pe_ix ix_tup (pv 0) pe_int (fun _ _ => rfl)) (pe_ifExp (pt_val (pe_ix ix_tup (pv 0) pe_int (fun _ _ => rfl))) (pe_revS (pv 2) (pe_op op_sub pe_int pe_int)) (pv 2))) (pe_ix ix_tup (pv 0) pe_int (fun _ _ => rfl))))))), ?_⟩
    have hl3 := hk.lh
    have h2 := hk.lt
    have h3 := rev_len x
    refine ⟨_, rfl, l, o.vs, 0, o.sv, rfl, rfl, SqT.of hl, rfl, rfl, _, rfl, ?_⟩
    cases es : o.s with
    | none =>
      have oe : o.sv = .non := by unfold So.sv; rw [es]
      have : o.over x = o.h := by unfold So.over; rw [es]
      rw [this] at kk
      refine iteT' (decide_eq_true oe) ?_
      refine ⟨_, rfl, l, o.vs, 1, .str o.h, rfl, rfl, SqT.of hl, rfl, ?_⟩
      exact kk
    | some i =>
      have oe : o.sv = .int i := by unfold So.sv; rw [es]
      have i0 := hz i es
      subst i0
      have : o.over x = o.h ++ (if o.u = true then revS x else x) ++ o.t := by unfold So.over; rw [es]
      rw [this] at kk
      refine iteF' (decide_eq_false (by rw [oe]; exact fun z => nomatch z)) ?_
      refine ⟨_, rfl, _, rfl, l, o.vs, 0, o.sv, rfl, rfl, SqT.of hl, rfl, c, [.str x], 0, .str x, rfl, oe, SqL.of hc, rfl, ?_⟩
      refine ⟨_, rfl, l, o.vs, 1, .str o.h, rfl, rfl, SqT.of hl, rfl, ?_⟩
      refine ⟨_, rfl, l, o.vs, 3, .bl o.u, rfl, rfl, SqT.of hl, rfl, _, rfl, ?_⟩
      cases eu : o.u with
      | true =>
        rw [eu, if_pos rfl] at kk
        refine ⟨_, rfl, _, _, rfl, rfl, rfl, x, rfl, le_lineN (by omega), ?_⟩
        refine ⟨_, _, rfl, rfl, le_lineN (by omega), ?_⟩
        refine ⟨_, rfl, l, o.vs, 2, .str o.t, rfl, rfl, SqT.of hl, rfl, _, _, rfl, rfl, le_lineN (by rw [app_len]; omega), ?_⟩
        exact kk
      | false =>
        rw [eu, if_neg (by decide)] at kk
        refine ⟨_, rfl, _, _, rfl, rfl, le_lineN (by omega), ?_⟩
        refine ⟨_, rfl, l, o.vs, 2, .str o.t, rfl, rfl, SqT.of hl, rfl, _, _, rfl, rfl, le_lineN (by rw [app_len]; omega), ?_⟩
        exact kk

theorem ok_free {K : PySem.W.Frag} {mg : Str → Option Value} {A0 : Ad} {P : Program} {w : World} {base : Heap} (T : Txt K mg A0) : FnOk P w K mg base CX0 4 A0.f_free A0.d_free ["_law_box", "_law_marks"] (spFree) := by
  have Gchoose := ok_choose (P := P) (w := w) (base := base) T
  have Gone_of := ok_one_of (P := P) (w := w) (base := base) T
  have Gtold := ok_told (P := P) (w := w) (base := base) T
  refine T.F_free.ok sc_free (fun vs H Q E h => ?_) (fun cdv A outer s H vs Q E hr h => ?_)
  · obtain ⟨b, z, rfl, hB, hz0, hz1, hw, kk⟩ := h
    rfl
  · obtain ⟨b, z, rfl, hB, hz0, hz1, hw, kk⟩ := h
    have hr_choose : Room 1 _ := hr.mono (by decide)
    have hr_one_of : Room 2 _ := hr.mono (by decide)
    have hr_told : Room 3 _ := hr.mono (by decide)
    refine ⟨_, (pss_cons (ps_if (pt_cmpR op_eq (pe_call Gchoose hr_choose rfl T.g_choose T.k_choose T.b_choose .nil pass0 (pa_cons (pv 0) (pa_cons pe_int pa_nil))) pe_int (nomark _)) (pss_one (ps_ret (pe_tup (pa_cons pe_non (pa_cons (pe_call Gtold hr_told rfl T.g_told T.k_told T.b_told .nil pass0 (pa_cons (pv 0) (pa_cons (pv 1) (pa_cons pe_int pa_nil)))) (pa_cons pe_str (pa_cons pe_bl pa_nil))))))) pss_nil)
      (pss_cons (ps_par (i := 2) (j := 3) (by rfl) sc_free.nd rfl rfl (by decide) rfl rfl (pa_cons (pe_call Gone_of hr_one_of rfl T.g_one_of T.k_one_of T.b_one_of .nil pass0 (pa_cons (pv 0) (pa_cons (pe_lst (pa_cons pe_int (pa_cons pe_int (pa_cons pe_int (pa_cons pe_int (pa_cons pe_int pa_nil)))))) pa_nil))) (pa_cons (pe_call Gtold hr_told rfl T.g_told T.k_told T.b_told .nil pass0 (pa_cons (pv 0) (pa_cons (pv 1) (pa_cons pe_int pa_nil)))) pa_nil)) (by rfl))
      (pss_one (ps_ret (pe_tup (pa_cons (pv 2) (pa_cons (pv 3) (pa_cons (pe_call Gtold hr_told rfl T.g_told T.k_told T.b_told .nil pass0 (pa_cons (pv 0) (pa_cons (pv 1) (pa_cons pe_int pa_nil)))) (pa_cons (pe_cmpR op_eq (pe_call Gchoose hr_choose rfl T.g_choose T.k_choose T.b_choose .nil pass0 (pa_cons (pv 0) (pa_cons pe_int pa_nil))) pe_int (nomark _)) pa_nil))))))))), ?_⟩
    walk_at "rd"
    refine ⟨hB, by decide, by decide, fun d H1 D1 d0 d1 _ => ?_⟩
    walk_at "rd"
    refine ite2 (fun h0 => ?_) (fun h0 => ?_)
    · walk_at "rd"
      refine ⟨b, z, 3, rfl, D1.bx, hz0, hz1, by decide, by decide, fun y H2 D2 ly cy => ?_⟩
      walk_at "rd"
      intro p np
      have wy := word_sub cy hw
      exact kk p ⟨none, y, Str.empty, false⟩ _ ((D1.trans D2).trans (.same D2.bx (same_upd np))) upd_same ⟨wy, rfl, by show y.length ≤ 3; omega, by show 0 ≤ 3; decide, (fun _ q => nomatch q), fun _ => ⟨rfl, rfl⟩⟩
    · walk_at "rd"
      intro L nL
      have D2 : Dr b H1 (upd H1 L (.lst [.int 0, .int 1, .int 1, .int 7, .int 12])) := .same D1.bx (same_upd nL)
      refine ⟨b, L, _, rfl, D2.bx, SqL.of upd_same, D1.bx.ne nL, Nat.le_of_ble_eq_true rfl, Nat.le_of_ble_eq_true rfl, fun v H3 D3 mv => ?_⟩
      obtain ⟨i, rfl, hi⟩ : ∃ i : Int, v = .int i ∧ (0 ≤ i ∧ i ≤ 12) := by
        simp only [List.mem_cons, List.not_mem_nil, or_false] at mv
        rcases mv with rfl | rfl | rfl | rfl | rfl <;> exact ⟨_, rfl, by decide⟩
      walk_at "rd"
      refine ⟨b, z, 3, rfl, D3.bx, hz0, hz1, by decide, by decide, fun y H4 D4 ly cy => ?_⟩
      walk_at "rd"
      refine ⟨b, z, 3, rfl, D4.bx, hz0, hz1, by decide, by decide, fun x H5 D5 lx cx => ?_⟩
      walk_at "rd"
      refine ⟨D5.bx, by decide, by decide, fun d6 H6 D6 _ _ _ => ?_⟩
      walk_at "rd"
      intro p np
      have wy := word_sub cy hw
      have wx := word_sub cx hw
      exact kk p ⟨some i, y, x, decide (V.int d6 = V.int 0)⟩ _ ((D1.trans (D2.trans (D3.trans (D4.trans (D5.trans D6))))).trans (.same D6.bx (same_upd np))) upd_same ⟨wy, wx, by show y.length ≤ 3; omega, by show x.length ≤ 3; omega, fun j q => by cases q; exact hi, fun q => nomatch q⟩

theorem ok_set_of {K : PySem.W.Frag} {mg : Str → Option Value} {A0 : Ad} {P : Program} {w : World} {base : Heap} (T : Txt K mg A0) : FnOk P w K mg base CX0 6 A0.f_set_of A0.d_set_of ["_law_one"] (spSetOf A0.c_Setting) := by
  have GSetting_init := ok_Setting_init (P := P) (w := w) (base := base) T
  refine T.F_set_of.ok sc_set_of (fun vs H Q E h => ?_) (fun cdv A outer s H vs Q E hr h => ?_)
  · obtain ⟨l, o, rfl, hl, hk, kk⟩ := h
    rfl
  · obtain ⟨l, o, rfl, hl, hk, kk⟩ := h
    have hr_Setting : Room 5 _ := hr.mono (by decide)
    refine ⟨_, (pss_one (ps_ret (pe_make T.m_Setting GSetting_init hr_Setting rfl T.g_Setting T.b_Setting_init .nil pass0 (pa_cons (pe_ix ix_tup (pv 0) pe_int (fun _ _ => rfl)) (pa_cons (pe_ix ix_tup (pv 0) pe_int (fun _ _ => rfl)) (pa_cons (pe_ix ix_tup (pv 0) pe_int (fun _ _ => rfl)) (pa_cons (pe_ix ix_tup (pv 0) pe_int (fun _ _ => rfl)) pa_nil))))))), ?_⟩
    have ix : ∀ (n : Nat) (v : V), o.vs[n]? = some v → atI o.vs (n : Int) = some v := fun n v q => atI_nat q
    refine ⟨_, rfl, l, o.vs, 0, o.sv, rfl, rfl, SqT.of hl, rfl, _, rfl, l, o.vs, 1, (.str o.h), rfl, rfl, SqT.of hl, rfl, _, rfl, l, o.vs, 2, (.str o.t), rfl, rfl, SqT.of hl, rfl, _, rfl, l, o.vs, 3, (.bl o.u), rfl, rfl, SqT.of hl, rfl, ?_⟩
    intro p dx np ndx ne
    have s1 : Same H (upd (upd H dx (.own p)) p (.ins A0.c_Setting dx [])) := (same_upd ndx).trans (same_upd (by rw [upd_ne ne.symm]; exact np))
    refine ⟨p, dx, o, rfl, upd_same, hk, fun H' k1 st => ⟨rfl, kk p H' (fun b' q' e => k1 _ _ (ne_of_none e np) (s1 _ _ e)) np st⟩⟩

end
end My

namespace My
open PySem PySem.Spec PyProof.Rows L2

local macro_rules | `(tactic| walk_at "rd") => `(tactic| (repeat (first
  | (refine ⟨_, rfl, ?_⟩) | (refine ⟨_, _, rfl, rfl, ?_⟩) | (refine ⟨_, _, rfl, ?_⟩) | (refine ⟨rfl, ?_⟩) | (refine ⟨⟨_, rfl⟩, ?_⟩)
  | (refine ⟨.inl (by decide), ?_⟩) | (refine ⟨.inr (by decide), ?_⟩) | (refine ⟨⟨by decide, by decide⟩, ?_⟩) | (refine ⟨⟨by decide, by decide, by decide⟩, ?_⟩) | (refine ⟨by decide, ?_⟩)
  | (refine ⟨(by show (0 : Int) < _; decide), ?_⟩)
  | (refine ⟨le_line rfl, ?_⟩) | (refine .inl ⟨_, rfl, ?_⟩) | (refine ⟨_, _, _, _, rfl, rfl, SqL.of (by assumption), rfl, ?_⟩))))


def ScL (K : PySem.W.Frag) (b : Addr) (H : Hp) (a : Addr) (xs : List V) : Prop := SqL K H a xs ∧ (a ≠ b ∨ ∀ H', SqL K H' a xs)
theorem ScL.mk {K : PySem.W.Frag} {b a : Addr} {H : Hp} {xs : List V} (h : SqL K H a xs) (nb : H b = none) : ScL K b H a xs := by
  refine ⟨h, ?_⟩
  rcases h with h | h
  · refine .inl ?_
    rcases h with h | ⟨o, h⟩ <;> exact ne_of_none h nb
  · exact .inr fun _ => .inr h
theorem ScL.dr {K : PySem.W.Frag} {b a : Addr} {H H' : Hp} {xs : List V} (h : ScL K b H a xs) (d : Dr b H H') : ScL K b H' a xs := by
  obtain ⟨h1, h2⟩ := h
  rcases h2 with n | n
  · exact ⟨d.sqL n h1, .inl n⟩
  · exact ⟨n H', .inr n⟩
theorem ScL.put {K : PySem.W.Frag} {b a L : Addr} {H : Hp} {xs : List V} {o : HO} (h : ScL K b H a xs) (n : a ≠ L ∨ ∀ H', SqL K H' a xs) : ScL K b (upd H L o) a xs := by
  obtain ⟨h1, h2⟩ := h
  refine ⟨?_, h2⟩
  rcases n with n | n
  · rcases h1 with h | h
    · refine .inl ?_
      rcases h with h | ⟨q, h⟩
      · exact .inl (by rw [upd_ne n]; exact h)
      · exact .inr ⟨q, by rw [upd_ne n]; exact h⟩
    · exact .inr h
  · exact n _
/-- what is no list stays -/
def NL (H H' : Hp) : Prop := ∀ p x, (∀ xs, x ≠ .lst xs) → H p = some x → H' p = some x
theorem NL.of_dr {b : Addr} {H H' : Hp} (hb : B2 H b) (d : Dr b H H') : NL H H' := fun p x n e => by
  refine d.kp p x ?_ e
  obtain ⟨g, r, q⟩ := hb
  intro z
  subst z
  rw [q] at e
  exact n _ (Option.some.inj e).symm
theorem NL.of_same {H H' : Hp} (s : Same H H') : NL H H' := fun p x _ e => s p x e
theorem NL.trans {H H1 H2 : Hp} (x : NL H H1) (y : NL H1 H2) : NL H H2 := fun p o n e => y p o n (x p o n e)
theorem NL.put {H : Hp} {L : Addr} {xs ys : List V} (e : H L = some (.lst xs)) : NL H (upd H L (.lst ys)) := fun p x n q => by
  rw [upd_ne]
  · exact q
  · intro z
    subst z
    rw [e] at q
    exact n _ (Option.some.inj q).symm
theorem NL.tup {H H' : Hp} (d : NL H H') {p : Addr} {ys : List V} (e : H p = some (.tup ys)) : H' p = some (.tup ys) := d p _ (fun _ z => nomatch z) e
theorem NL.set {H H' : Hp} (d : NL H H') {C p : Addr} {o : So} (e : SetAt C H p o) : SetAt C H' p o := by
  obtain ⟨dx, e⟩ := e
  exact ⟨dx, d p _ (fun _ z => nomatch z) e⟩
/-- a setting made earlier, with what it was made of -/
def Pr (C : Addr) (H : Hp) (t : Addr) : Prop := ∃ l m o, H t = some (.tup [.ref l, .ref m]) ∧ H l = some (.tup (So.vs o)) ∧ SetAt C H m o ∧ So.ok o
theorem Pr.nl {C : Addr} {H H' : Hp} {t : Addr} (h : Pr C H t) (d : NL H H') : Pr C H' t := by
  obtain ⟨l, m, o, e1, e2, e3, e4⟩ := h
  exact ⟨l, m, o, d.tup e1, d.tup e2, d.set e3, e4⟩
def So.d (o : So) : PyData := match o.s with | none => .none | some i => .int i
@[irreducible] def So.dt (o : So) : PyData := .tuple [o.d, .str o.h, .str o.t, .bool o.u]
theorem So.dp {K : PySem.W.Frag} {H : Hp} (o : So) : DpAll K H o.vs [o.d, .str o.h, .str o.t, .bool o.u] := by
  have h : Dp K H o.sv o.d := by
    unfold So.sv So.d
    cases o.s with
    | none => exact .non
    | some i => exact .int i
  exact .cons h (.cons (.str _) (.cons (.str _) (.cons (.bl _) .nil)))
theorem shaped_of {xs : List PyData} (h1 : PyData.canLayAll0 xs = true) (h2 : PyData.depthAll xs ≤ 60) : SeqAt.shaped (.tuple xs) = true := by
  unfold SeqAt.shaped
  rw [Bool.and_eq_true]
  refine ⟨h1, decide_eq_true ?_⟩
  show PyData.depthAll xs + 1 ≤ 64
  omega
theorem abc_strOk {y : Str} (h : Abc y) : PyData.strOk y = true := by
  unfold PyData.strOk
  rw [Array.all_eq_true_iff_forall_mem]
  intro c hc
  have := h c (by simpa using hc)
  exact decide_eq_true (by omega)
theorem So.shaped {o : So} (h : o.ok) : SeqAt.shaped o.dt = true := by
  have e1 := abc_strOk (word_abc h.wh)
  have e2 := abc_strOk (word_abc h.wt)
  unfold So.dt
  refine shaped_of ?_ ?_
  · show (o.d.canLay0 && (PyData.strOk o.h && (PyData.strOk o.t && true))) = true
    rw [e1, e2]
    unfold So.d
    cases o.s <;> rfl
  · unfold So.d
    cases o.s <;> exact Nat.zero_le _
theorem So.showable {o : So} (h : o.ok) : o.dt.showable = true := by
  unfold So.dt
  show (o.d.showable && (true && (true && (true && true)))) = true
  unfold So.d
  cases e : o.s with
  | none => rfl
  | some i =>
    have hi := h.lo i e
    have := log_small hi.1 (by omega)
    show (decide (i.natAbs.log2 < 1920) && _) = true
    rw [decide_eq_true this]
    rfl
theorem repr_abc {y : Str} (h : Abc y) (hl : y.length ≤ 3) : (reprText y).length ≤ 32 := by
  have := StrLaws.reprText_len y (fun c hc => Nat.lt_trans (h c hc) (by decide))
  omega
theorem So.room {o : So} (h : o.ok) : o.dt.shown.length ≤ sizeLine := by
  have e1 := repr_abc (word_abc h.wh) h.lh
  have e2 := repr_abc (word_abc h.wt) h.lt
  have e0 : o.d.shown.length ≤ 10 := by
    unfold So.d
    cases e : o.s with
    | none => exact (by decide +kernel : ("None" : Str).length ≤ 10)
    | some i =>
      have hi := h.lo i e
      exact Nat.le_trans (int_len hi.1 (by omega)) (by decide)
  have e3 : (PyData.bool o.u).shown.length ≤ 10 := by cases o.u <;> exact (by decide +kernel)
  unfold So.dt
  refine le_lineN ?_
  have := join_length_add [o.d.shown, reprText o.h, reprText o.t, (PyData.bool o.u).shown] (by simp)
  show (tupleText [o.d.shown, reprText o.h, reprText o.t, (PyData.bool o.u).shown]).length ≤ _
  unfold tupleText
  rw [app_len, app_len]
  simp only [piled, List.map_cons, List.map_nil, List.sum_cons, List.sum_nil] at this
  have k1 : ("(" : Str).length = 1 := by decide +kernel
  have k2 : (Str.ofString (if ([o.d.shown, reprText o.h, reprText o.t, (PyData.bool o.u).shown].length == 1) = true then ",)" else ")")).length = 1 := by
    show (Str.ofString ")").length = 1
    decide +kernel
  rw [k1, k2]
  omega
theorem So.same_self (o : So) : o.same o = true := by
  unfold So.same
  rw [decide_eq_true rfl, decide_eq_true rfl, decide_eq_true rfl, decide_eq_true rfl]
  rfl
theorem dec_beq {α : Type} [BEq α] [LawfulBEq α] [DecidableEq α] (a b : α) : decide (a = b) = (a == b) := by
  by_cases h : a = b
  · rw [decide_eq_true h, h, beq_self_eq_true]
  · rw [decide_eq_false h]
    exact (beq_eq_false_iff_ne.mpr h).symm
theorem So.same_eqv (o p : So) : o.same p = PyData.eqv o.dt p.dt := by
  obtain ⟨s, h, t, u⟩ := o
  obtain ⟨s', h', t', u'⟩ := p
  have e : ∀ x y : PyData, decide (So.sv ⟨s, h, t, u⟩ = So.sv ⟨s', h', t', u'⟩) = PyData.eqv (So.d ⟨s, h, t, u⟩) (So.d ⟨s', h', t', u'⟩) := fun _ _ => by
    cases s with
    | none => cases s' with
      | none => rfl
      | some j => rfl
    | some i => cases s' with
      | none => rfl
      | some j =>
        show decide (V.int i = V.int j) = (i == j)
        rw [← dec_beq]
        by_cases q : i = j
        · rw [decide_eq_true q, decide_eq_true (by rw [q])]
        · rw [decide_eq_false q, decide_eq_false (fun z => q (V.int.inj z))]
  unfold So.same So.dt
  rw [e .none .none, dec_beq h h', dec_beq t t', dec_beq u u']
  show _ = (PyData.eqv (So.d ⟨s, h, t, u⟩) (So.d ⟨s', h', t', u'⟩) && ((h == h') && ((t == t') && ((u == u') && true))))
  rw [Bool.and_true]
theorem So.dpt {K : PySem.W.Frag} {H : Hp} {a : Addr} {o : So} (h : SqT K H a o.vs) : Dp K H (.ref a) o.dt := by
  unfold So.dt
  exact .tup h o.dp
set_option maxHeartbeats 2000000

section
theorem ok_law {K : PySem.W.Frag} {mg : Str → Option Value} {A0 : Ad} {P : Program} {w : World} {base : Heap} (T : Txt K mg A0) : FnAt P w K mg base callerA A0.f_law A0.d_law ["_law_script"] (spLaw K) := by
  have Gseed := ok_seed (P := P) (w := w) (base := base) T
  have Gone_of := ok_one_of (P := P) (w := w) (base := base) T
  have Gfree := ok_free (P := P) (w := w) (base := base) T
  have Gset_of := ok_set_of (P := P) (w := w) (base := base) T
  have Gset_text := ok_set_text (P := P) (w := w) (base := base) T
  have Gtold := ok_told (P := P) (w := w) (base := base) T
  have Gover := ok_over (P := P) (w := w) (base := base) T
  have Gx : True := trivial
  have GSetting_init := ok_Setting_init (P := P) (w := w) (base := base) T
  have GSetting_over := ok_Setting_over (P := P) (w := w) (base := base) T
  have GSetting_eq := ok_Setting_eq (P := P) (w := w) (base := base) T
  have GSetting_str := ok_Setting_str (P := P) (w := w) (base := base) T
  obtain ⟨ds2, V2, Bd2⟩ := T.b2_Setting_init
  obtain ⟨ds3, V3, Bd3⟩ := T.b3_Setting_init
  refine My.Fun.at T.F_law (k := 11) sc_law ⟨rfl, by decide, by decide⟩ (fun vs H Q E h => ?_) (fun cdv outer s H vs Q E hr h => ?_)
  · obtain ⟨a, ns, rfl, hS, hlen, kk⟩ := h
    rfl
  · obtain ⟨a, ns, rfl, hS, hlen, kk⟩ := h
    have hr_seed : Room 1 _ := hr.mono (by decide)
    have hr_one_of : Room 2 _ := hr.mono (by decide)
    have hr_free : Room 4 _ := hr.mono (by decide)
    have hr_set_of : Room 6 _ := hr.mono (by decide)
    have hr_set_text : Room 1 _ := hr.mono (by decide)
    have hr_told : Room 3 _ := hr.mono (by decide)
    have hr_over : Room 1 _ := hr.mono (by decide)
    have hun : (callerA.deeper (envOfC "law" (defScope s_law) s.heap.objs.size A0.f_law cdv)).units + 66 < cLine := by have := hr.un; omega
    have hr_Setting_init1 : Room 5 _ := hr.mono (by decide)
    have hr_Setting_over : Room 1 _ := hr.mono (by decide)
    refine ⟨_, (pss_cons (ps_for PassesOwn.never rfl (pi_range1 (by rfl) T.z_range (pa_cons (pe_callB (call_max2 rfl) (by rfl) T.z_max (by decide +kernel) (pa_cons pe_int (pa_cons (pe_callB (call_min2 rfl) (by rfl) T.z_min (by decide +kernel) (pa_cons pe_int (pa_cons (pe_callB call_len_seq (by rfl) T.z_len (by decide +kernel) (pa_cons (pv 0) pa_nil)) pa_nil))) pa_nil))) pa_nil)) (pg_name (i := 1) sc_law.nd rfl (Or.inl rfl)) (pss_cons (ps_set (i := 2) sc_law.nd rfl (Or.inl rfl) (pe_call Gseed hr_seed rfl T.g_seed T.k_seed T.b_seed .nil pass0 (pa_cons (pv 0) (pa_cons (pv 1) pa_nil))))
      (pss_cons (ps_set (i := 3) sc_law.nd rfl (Or.inl rfl) (pe_lst pa_nil))
      (pss_one (ps_for PassesOwn.never rfl (pi_range1 (by rfl) T.z_range (pa_cons pe_int pa_nil)) (pg_name (i := 4) sc_law.nd rfl (Or.inl rfl)) (pss_cons (ps_set (i := 5) sc_law.nd rfl (Or.inl rfl) (pe_call Gone_of hr_one_of rfl T.g_one_of T.k_one_of T.b_one_of .nil pass0 (pa_cons (pv 2) (pa_cons (pe_lst (pa_cons pe_str (pa_cons pe_str (pa_cons pe_str (pa_cons pe_str pa_nil))))) pa_nil))))
      (pss_cons (ps_set (i := 6) sc_law.nd rfl (Or.inl rfl) (pe_call Gfree hr_free rfl T.g_free T.k_free T.b_free .nil pass0 (pa_cons (pv 2) (pa_cons (pv 5) pa_nil))))
      (pss_cons (ps_set (i := 7) sc_law.nd rfl (Or.inl rfl) (pe_call Gset_of hr_set_of rfl T.g_set_of T.k_set_of T.b_set_of .nil pass0 (pa_cons (pv 6) pa_nil)))
      (pss_cons (ps_if (pt_cmpR op_ne (pe_callB (cr_reprD rfl hun) (by rfl) T.z_repr (by decide +kernel) (pa_cons (pe_tup (pa_cons (pe_fld (pv 7) rfl) (pa_cons (pe_fld (pv 7) rfl) (pa_cons (pe_fld (pv 7) rfl) (pa_cons (pe_fld (pv 7) rfl) pa_nil))))) pa_nil)) (pe_callB (cr_reprD rfl hun) (by rfl) T.z_repr (by decide +kernel) (pa_cons (pv 6) pa_nil)) (nomark _)) (pss_one (ps_ret pe_bl)) pss_nil)
      (pss_cons (ps_if (pt_cmpR op_ne (pe_callTy (cr_strOwn GSetting_str (hr.mono (by decide)) T.b_Setting_str T.mt_Setting_str.at_ T.mt_Setting_str.fn) (by rfl) T.z_str (by decide +kernel) (pa_cons (pv 7) pa_nil)) (pe_call Gset_text hr_set_text rfl T.g_set_text T.k_set_text T.b_set_text .nil pass0 (pa_cons (pv 6) pa_nil)) (nomark _)) (pss_one (ps_ret pe_bl)) pss_nil)
      (pss_cons (ps_for PassesOwn.never rfl (pi_range1 (by rfl) T.z_range (pa_cons pe_int pa_nil)) (pg_name (i := 8) sc_law.nd rfl (Or.inl rfl)) (pss_cons (ps_set (i := 9) sc_law.nd rfl (Or.inl rfl) (pe_call Gtold hr_told rfl T.g_told T.k_told T.b_told .nil pass0 (pa_cons (pv 2) (pa_cons (pv 5) (pa_cons pe_int pa_nil)))))
      (pss_one (ps_if (pt_cmpR op_ne (pe_meth (pv 7) T.cl_Setting T.mt_Setting_over GSetting_over hr_Setting_over T.b_Setting_over .nil pass0 (pa_cons (pv 9) pa_nil)) (pe_call Gover hr_over rfl T.g_over T.k_over T.b_over .nil pass0 (pa_cons (pe_ifExp (pt_cmpR op_notN (pe_ix ix_tup (pv 6) pe_int (fun _ _ => rfl)) pe_non (nomark _)) (pe_op op_catT (pe_tup (pa_cons pe_int pa_nil)) (pe_slice sl_tup (pv 6) (po_some pe_int) po_none)) (pv 6)) (pa_cons (pe_lst (pa_cons (pv 9) pa_nil)) pa_nil))) (nomark _)) (pss_one (ps_ret pe_bl)) pss_nil))))
      (pss_cons (ps_if (PW.pt (pw_or (pt_cmpR (op_inO GSetting_eq (hr.mono (by decide)) T.b_Setting_eq T.mt_Setting_eq.at_ T.mt_Setting_eq.fn T.r_s1 T.r_s2 T.r_s3) (pv 7) (pe_tup (pa_cons (pe_callTy (cr_strOwn GSetting_str (hr.mono (by decide)) T.b_Setting_str T.mt_Setting_str.at_ T.mt_Setting_str.fn) (by rfl) T.z_str (by decide +kernel) (pa_cons (pv 7) pa_nil)) (pa_cons (pv 6) (pa_cons pe_non pa_nil)))) rfl) (pw_or1 (pt_cmpR (op_neO GSetting_eq (hr.mono (by decide)) T.b_Setting_eq T.mt_Setting_eq.at_ T.mt_Setting_eq.fn T.r_ne T.r_mo) (pv 7) (pe_call Gset_of hr_set_of rfl T.g_set_of T.k_set_of T.b_set_of .nil pass0 (pa_cons (pv 6) pa_nil)) (nomark _))))) (pss_one (ps_ret pe_bl)) pss_nil)
      (pss_cons (ps_for PassesOwn.never rfl (pi_list (pv 3)) (pg_tup rfl (pgs_cons (pg_name (i := 10) sc_law.nd rfl (Or.inl rfl)) (pgs_cons (pg_name (i := 11) sc_law.nd rfl (Or.inl rfl)) pgs_nil))) (pss_one (ps_if (pt_cmpR op_ne (pe_cmpR (op_eqO GSetting_eq (hr.mono (by decide)) T.b_Setting_eq T.mt_Setting_eq.at_ T.mt_Setting_eq.fn) (pv 7) (pv 11) (nomark _)) (pe_cmpR (op_eqD hr.units) (pv 6) (pv 10) (nomark _)) (nomark _)) (pss_one (ps_ret pe_bl)) pss_nil)))
      (pss_one (ps_expr (pe_bm PySem.F.plainAttrs_list PySem.F.slot_list_append PySem.F.type_list_append mt_append (pv 3) (pa_cons (pe_tup (pa_cons (pv 6) (pa_cons (pv 7) pa_nil))) pa_nil)))))))))))))))))
      (pss_cons (ps_if (pt_cmpR op_ne (pe_callB (cr_reprD rfl hun) (by rfl) T.z_repr (by decide +kernel) (pa_cons (pe_tup (pa_cons (pe_fld (pe_make T.m_Setting GSetting_init hr_Setting_init1 rfl T.g_Setting Bd2 V2 pass0 (pa_cons pe_int pa_nil)) rfl) (pa_cons (pe_fld (pe_make T.m_Setting GSetting_init hr_Setting_init1 rfl T.g_Setting Bd2 V2 pass0 (pa_cons pe_int pa_nil)) rfl) (pa_cons (pe_fld (pe_make T.m_Setting GSetting_init hr_Setting_init1 rfl T.g_Setting Bd2 V2 pass0 (pa_cons pe_int pa_nil)) rfl) pa_nil)))) pa_nil)) (pe_callB (cr_reprD rfl hun) (by rfl) T.z_repr (by decide +kernel) (pa_cons (pe_tup (pa_cons pe_str (pa_cons pe_str (pa_cons pe_bl pa_nil)))) pa_nil)) (nomark _)) (pss_one (ps_ret pe_bl)) pss_nil)
      (pss_one (ps_ret (pe_and (pe_cmpR op_eq (pe_callTy (cr_strOwn GSetting_str (hr.mono (by decide)) T.b_Setting_str T.mt_Setting_str.at_ T.mt_Setting_str.fn) (by rfl) T.z_str (by decide +kernel) (pa_cons (pe_make T.m_Setting GSetting_init hr_Setting_init1 rfl T.g_Setting Bd2 V2 pass0 (pa_cons pe_int pa_nil)) pa_nil)) pe_str (nomark _)) (pe_and (pe_cmpR op_eq (pe_callTy (cr_strOwn GSetting_str (hr.mono (by decide)) T.b_Setting_str T.mt_Setting_str.at_ T.mt_Setting_str.fn) (by rfl) T.z_str (by decide +kernel) (pa_cons (pe_make T.m_Setting GSetting_init hr_Setting_init1 rfl T.g_Setting Bd2 V2 pass0 (pa_cons pe_non pa_nil)) pa_nil)) pe_str (nomark _)) (pe_one (pe_cmpR op_eq (pe_meth (pe_make T.m_Setting GSetting_init hr_Setting_init1 rfl T.g_Setting Bd3 V3 pass0 (pa_cons pe_non (pa_cons pe_str pa_nil))) T.cl_Setting T.mt_Setting_over GSetting_over hr_Setting_over T.b_Setting_over .nil pass0 (pa_cons pe_str pa_nil)) pe_str (nomark _))))))))), ?_⟩
    walk_at "rd"
    refine ⟨_, _, rfl, .inl hS, ?_⟩
    walk_at "rd"
    rw [List.length_map]
    generalize hJ : (if (if ((ns.length : Nat) : Int) < 4 then ((ns.length : Nat) : Int) else 4) > 1 then (if ((ns.length : Nat) : Int) < 4 then ((ns.length : Nat) : Int) else 4) else 1) = J
    have hJ0 : 0 ≤ J ∧ J ≤ 63 := by
      rw [← hJ]
      constructor <;> (repeat' split) <;> omega
    refine ⟨by omega, by omega, for_range (lo := 0) (n := J.toNat) (fun i σ H' => (∃ v1 v2 v3 v4 v5 v6 v7 v8 v9 v10 v11, σ = [some (.ref a), v1, v2, v3, v4, v5, v6, v7, v8, v9, v10, v11]) ∧ SqL K H' a (ns.map V.int))
      ⟨⟨_, _, _, _, _, _, _, _, _, _, _, rfl⟩, hS⟩ (fun i σ H1 hi P1 => ?_) (fun σ H1 P1 => ?_)⟩
    · obtain ⟨⟨v1, v2, v3, v4, v5, v6, v7, v8, v9, v10, v11, rfl⟩, hS1⟩ := P1
      walk_at "rd"
      refine ⟨a, ns, 0 + (i : Int), rfl, hS1, hlen, by omega, by omega, fun b g r nb => ?_⟩
      have hB0 : B2 (upd H1 b (.lst [.int g, .int r])) b := ⟨g, r, upd_same⟩
      have hC0 : ScL K b (upd H1 b (.lst [.int g, .int r])) a (ns.map V.int) := ⟨(same_upd nb).seq hS1, (ScL.mk hS1 nb).2⟩
      walk_at "rd"
      intro L nL
      have sL := same_upd (o := .lst []) nL
      have nLb : L ≠ b := hB0.ne nL
      walk_at "rd"
      refine for_range (lo := 0) (n := 8) (fun j σ H' => (∃ v4 v5 v6 v7 v8 v9 v10 v11, σ = [some (.ref a), some (.int (0 + (i : Int))), some (.ref b), some (.ref L), v4, v5, v6, v7, v8, v9, v10, v11]) ∧ B2 H' b ∧ ScL K b H' a (ns.map V.int) ∧
          (a ≠ L ∨ ∀ H', SqL K H' a (ns.map V.int)) ∧ ∃ ts : List Addr, H' L = some (.lst (ts.map V.ref)) ∧ ts.length = j ∧ ∀ t ∈ ts, Pr A0.c_Setting H' t)
        ⟨⟨_, _, _, _, _, _, _, _, rfl⟩, (Dr.same hB0 sL).bx, hC0.dr (.same hB0 sL), (ScL.mk hC0.1 nL).2, [], upd_same, rfl, fun _ q => nomatch q⟩ (fun j σ H2 hj P2 => ?_) (fun σ H2 P2 => ?_)
      · obtain ⟨⟨v4, v5, v6, v7, v8, v9, v10, v11, rfl⟩, hB, hC, naL, ts, eL, hts, hP⟩ := P2
        walk_at "rd"
        intro L0 n0
        have s0 := same_upd (o := .lst [.str "ab", .str "abc", .str "az", .str "m"]) n0
        have D1 : Dr b H2 _ := .same hB s0
        refine ⟨b, L0, _, rfl, D1.bx, SqL.of upd_same, hB.ne n0, Nat.le_of_ble_eq_true rfl, Nat.le_of_ble_eq_true rfl, fun v H3 D2 mv => ?_⟩
        obtain ⟨z, rfl, wz, z0, z1⟩ : ∃ z : Str, v = .str z ∧ wordB z = true ∧ 0 < z.length ∧ z.length ≤ 3 := by
          simp only [List.mem_cons, List.not_mem_nil, or_false] at mv
          rcases mv with rfl | rfl | rfl | rfl <;> exact ⟨_, rfl, by decide +kernel, by decide +kernel, by decide +kernel⟩
        have D12 := D1.trans D2
        walk_at "rd"
        refine ⟨D12.bx, z0, by omega, wz, fun l o H4 D3 el hk => ?_⟩
        have D13 := D12.trans D3
        walk_at "rd"
        refine ⟨l, o, rfl, el, hk, fun m H5 s5 nm sm => ?_⟩
        have D14 := D13.trans (.same D13.bx s5)
        have el5 := s5 _ _ el
        walk_at "rd"
        obtain ⟨dx, em⟩ := id sm
        refine ⟨m, _, dx, _, _, rfl, em, T.cl_Setting, T.n_Setting_source, o.l1, _, rfl, m, _, dx, _, _, rfl, em, T.cl_Setting, T.n_Setting_head, o.l2, _, rfl, m, _, dx, _, _, rfl, em, T.cl_Setting, T.n_Setting_tail, o.l3, _, rfl, m, _, dx, _, _, rfl, em, T.cl_Setting, T.n_Setting_is_turned, o.l4, ?_⟩
        walk_at "rd"
        intro T1 n1
        have s6 := same_upd (o := .tup o.vs) n1
        have D15 := D14.trans (.same D14.bx s6)
        have el6 := s6 _ _ el5
        have em6 := s6 _ _ em
        have hsm6 : SetAt A0.c_Setting (upd H5 T1 (.tup o.vs)) m o := ⟨dx, em6⟩
        refine ⟨_, o.dt, rfl, So.dpt (SqT.of upd_same), So.shaped hk, So.showable hk, So.room hk, ?_⟩
        refine ⟨_, rfl, _, o.dt, rfl, So.dpt (SqT.of el6), So.shaped hk, So.showable hk, So.room hk, rfl, _, rfl, iteNS rfl ?_⟩
        refine ⟨_, rfl, m, dx, _, rfl, em6, ⟨m, o, rfl, hsm6, hk, _, rfl, ?_⟩⟩
        refine ⟨_, rfl, l, o, rfl, el6, hk, ?_⟩
        refine ⟨rfl, _, rfl, iteNS rfl ?_⟩
        walk_at "rd"
        have B6 := D15.bx
        let H6 : Hp := upd H5 T1 (.tup o.vs)
        refine for_range (lo := 0) (n := 4) (fun q σ H' => (∃ v8 v9, σ = [some (.ref a), some (.int (0 + (i : Int))), some (.ref b), some (.ref L), some (.int (0 + (j : Int))), some (.str z), some (.ref l), some (.ref m), v8, v9, v10, v11]) ∧ Dr b H6 H')
          ⟨⟨_, _, rfl⟩, .refl B6⟩ (fun q σ H7 hq P7 => ?_) (fun σ H7 P7 => ?_)
        · obtain ⟨⟨v8, v9, rfl⟩, D7⟩ := P7
          walk_at "rd"
          refine ⟨b, z, 9, rfl, D7.bx, z0, by omega, by decide, by decide, fun y H8 D8 ly cy => ?_⟩
          have D78 := D7.trans D8
          have el8 := (NL.of_dr B6 D78).tup el6
          have sm8 := (NL.of_dr B6 D78).set hsm6
          obtain ⟨dx8, em8⟩ := id sm8
          walk_at "rd"
          refine ⟨m, dx8, _, rfl, em8, rfl, _, rfl, ⟨m, y, o, rfl, sm8, hk, by omega, ?_⟩⟩
          have fin : ∀ (o' : So) (l' c : Addr) (H9 : Hp), Same H8 H9 → H9 l' = some (.tup o'.vs) → H9 c = some (.lst [.str y]) → o'.ok → o'.over y = o.over y → Dr b H6 H9 := fun o' l' c H9 s9 _ _ _ _ => D78.trans (.same D78.bx s9)
          refine ⟨_, rfl, l, o.vs, 0, o.sv, rfl, rfl, SqT.of el8, rfl, rfl, _, rfl, ?_⟩
          cases es : o.s with
          | none =>
            have oe : o.sv = .non := by unfold So.sv; rw [es]
            refine iteF' (by rw [oe]; rfl) ?_
            walk_at "rd"
            intro T3 n3
            have s9 := same_upd (o := .lst [.str y]) n3
            refine ⟨l, T3, o, y, rfl, s9 _ _ el8, upd_same, hk, (fun _ z => by rw [es] at z; cases z), by omega, rfl, _, rfl, iteNS rfl ?_⟩
            exact ⟨⟨_, _, rfl⟩, D78.trans (.same D78.bx s9)⟩
          | some x =>
            have oe : o.sv = .int x := by unfold So.sv; rw [es]
            refine iteT' (by rw [oe]; rfl) ?_
            walk_at "rd"
            intro T3 n3
            have s9 := same_upd (o := .tup [.int 0]) n3
            refine ⟨_, rfl, 1, rfl, l, o.vs, rfl, SqT.of (s9 _ _ el8), by rw [show o.vs.length = 4 from rfl]; decide, ?_⟩
            intro T4 n4
            have s10 := same_upd (o := .tup [.str o.h, .str o.t, .bl o.u]) n4
            refine ⟨T3, T4, [.int 0], [.str o.h, .str o.t, .bl o.u], rfl, rfl, SqT.of (s10 _ _ upd_same), SqT.of upd_same, (fun z => nomatch z), le_lineN (show 4 ≤ 1000000 by decide), (fun z => nomatch z), fun _ T5 n5 => ?_⟩
            have s11 := same_upd (o := .tup (So.vs ⟨some 0, o.h, o.t, o.u⟩)) n5
            walk_at "rd"
            intro T6 n6
            have s12 := same_upd (o := .lst [.str y]) n6
            have sA := s9.trans (s10.trans (s11.trans s12))
            have hk' : So.ok ⟨some 0, o.h, o.t, o.u⟩ := ⟨hk.wh, hk.wt, hk.lh, hk.lt, (fun i q => by cases q; decide), (fun q => nomatch q)⟩
            have ev : So.over ⟨some 0, o.h, o.t, o.u⟩ y = o.over y := by
              unfold So.over
              rw [es]
            refine ⟨T5, T6, ⟨some 0, o.h, o.t, o.u⟩, y, rfl, s12 _ _ upd_same, upd_same, hk', (fun i q => by cases q; rfl), by omega, ?_⟩
            rw [ev]
            refine ⟨rfl, _, rfl, iteNS rfl ?_⟩
            exact ⟨⟨_, _, rfl⟩, D78.trans (.same D78.bx sA)⟩
        · obtain ⟨⟨v8, v9, rfl⟩, D7⟩ := P7
          have N7 := NL.of_dr B6 D7
          have el7 := N7.tup el6
          have sm7 := N7.set hsm6
          obtain ⟨dx7, em7⟩ := id sm7
          have D27 := D15.trans D7
          walk_at "rd"
          refine ⟨m, dx7, _, rfl, em7, ⟨m, o, rfl, sm7, hk, _, rfl, ?_⟩⟩
          walk_at "rd"
          intro T2 n2
          have s8 := same_upd (o := .tup [.str o.txt, .ref l, .non]) n2
          have el8 := s8 _ _ el7
          have em8 := s8 _ _ em7
          refine ⟨m, dx7, _, T2, _, rfl, rfl, em8, upd_same, fun v hv => ?_, fun v hv H' s' => ?_, fun H9 s9 => ?_⟩
          · simp only [List.cons_append, List.nil_append, List.mem_cons, List.not_mem_nil, or_false] at hv
            rcases hv with rfl | rfl | rfl
            · exact .inl ⟨_, rfl⟩
            · exact .inr (.inr ⟨l, _, rfl, el8⟩)
            · exact .inr (.inl rfl)
          · have sm' : SetAt A0.c_Setting H' m o := ⟨dx7, s' _ _ em8⟩
            simp only [List.cons_append, List.nil_append, List.mem_cons, List.not_mem_nil, or_false] at hv
            rcases hv with rfl | rfl | rfl
            · exact ⟨m, _, o, false, rfl, sm', .str _, rfl, Same.refl _⟩
            · exact ⟨m, _, o, false, rfl, sm', .tup (s' _ _ el8), rfl, Same.refl _⟩
            · exact ⟨m, _, o, false, rfl, sm', .non, rfl, Same.refl _⟩
          have el9 := s9 _ _ el8
          have sm9 : SetAt A0.c_Setting H9 m o := ⟨dx7, s9 _ _ em8⟩
          refine ⟨_, rfl, iteF' rfl ?_⟩
          walk_at "rd"
          refine ⟨l, o, rfl, el9, hk, fun p2 H10 s10 np2 sp2 => ?_⟩
          have sm10 : SetAt A0.c_Setting H10 m o := ⟨dx7, s10 _ _ (s9 _ _ em8)⟩
          obtain ⟨dx2, ep2⟩ := id sp2
          have ho : Oth A0.c_Setting H10 o (.ref p2) true := by
            have := Oth.set (o := o) sp2
            rw [So.same_self] at this
            exact this
          refine ⟨m, dx7, _, p2, dx2, _, rfl, rfl, s10 _ _ (s9 _ _ em8), ep2, ⟨m, .ref p2, o, true, rfl, sm10, ho, _, rfl, _, rfl, _, rfl, iteF' rfl ?_⟩⟩
          have el10 := s10 _ _ el9
          have s710 := s8.trans (s9.trans s10)
          have D2A := D27.trans (.same D27.bx s710)
          have eLA : H10 L = some (.lst (ts.map V.ref)) := D2A.kp _ _ nLb eL
          have hPA : ∀ t ∈ ts, Pr A0.c_Setting H10 t := fun t ht => (hP t ht).nl (NL.of_dr hB D2A)
          walk_at "rd"
          refine ⟨⟨_, SqL.of eLA⟩, for_it (walk_list (K := K) (a := L) (xs := ts.map V.ref)) (fun q σ H' => (∃ v10 v11, σ = [some (.ref a), some (.int (0 + (i : Int))), some (.ref b), some (.ref L), some (.int (0 + (j : Int))), some (.str z), some (.ref l), some (.ref m), v8, v9, v10, v11]) ∧ H' = H10)
            ⟨⟨_, _, rfl⟩, rfl⟩ (fun q σ H' _ h => by rw [h.2]; exact SqL.of eLA) (fun q x σ H' H'' hq PQ Y => ?_) (fun σ H' PQ => ?_)⟩
          · obtain ⟨⟨v10, v11, rfl⟩, rfl⟩ := PQ
            obtain ⟨rfl, hx⟩ := Y
            obtain ⟨t, ht, rfl⟩ : ∃ t, t ∈ ts ∧ x = .ref t := by
              have := List.mem_of_getElem? hx
              obtain ⟨t, ht, e⟩ := List.mem_map.mp this
              exact ⟨t, ht, e.symm⟩
            obtain ⟨l', m', o', et, el', sm', hk'⟩ := hPA t ht
            obtain ⟨dx', em'⟩ := id sm'
            have emA := s10 _ _ (s9 _ _ em8)
            refine ⟨t, _, rfl, SqT.of et, rfl, _, _, rfl, ?_⟩
            walk_at "rd"
            refine ⟨m, dx7, _, m', dx', _, rfl, rfl, emA, em', ⟨m, .ref m', o, o.same o', rfl, sm10, .set sm', _, rfl, ?_⟩⟩
            refine ⟨_, rfl, _, rfl, o.dt, o'.dt, So.dpt (SqT.of el10), So.dpt (SqT.of el'), So.shaped hk, So.shaped hk', rfl, _, rfl, iteNS (congrArg V.bl (So.same_eqv o o')) ?_⟩
            exact ⟨⟨_, _, rfl⟩, rfl⟩
          · obtain ⟨⟨v10, v11, rfl⟩, rfl⟩ := PQ
            walk_at "rd"
            refine ⟨.inl ⟨rfl, _, SqL.of eLA⟩, _, rfl, _, rfl, le_line rfl, fun T7 n7 => ?_⟩
            have s11 := same_upd (o := .tup [.ref l, .ref m]) n7
            have D2B := D2A.trans (.same D2A.bx s11)
            have eLB := s11 _ _ eLA
            refine ⟨L, _, .ref T7, rfl, rfl, eLB, ?_, ?_⟩
            · rw [List.length_map, hts]
              exact Nat.lt_of_lt_of_le (show j < 1000 by omega) (le_line rfl)
            · have nP := NL.put (ys := ts.map V.ref ++ [.ref T7]) eLB
              refine ⟨⟨_, _, _, _, _, _, _, _, rfl⟩, ?_, (hC.dr D2B).put naL, naL, ts ++ [T7], ?_, by rw [List.length_append, hts]; rfl, fun t ht => ?_⟩
              · obtain ⟨g, r, eb⟩ := D2B.bx
                exact ⟨g, r, by rw [upd_ne nLb.symm]; exact eb⟩
              · rw [upd_same, List.map_append]
                rfl
              · rcases List.mem_append.mp ht with ht | ht
                · exact ((hPA t ht).nl (NL.of_same s11)).nl nP
                · rw [List.mem_singleton.mp ht]
                  exact ⟨l, m, o, nP.tup upd_same, nP.tup (s11 _ _ el10), nP.set ((NL.of_same s11).set sm10), hk⟩
      · obtain ⟨⟨v4, v5, v6, v7, v8, v9, v10, v11, rfl⟩, hB, hC, _⟩ := P2
        exact ⟨⟨_, _, _, _, _, _, _, _, _, _, _, rfl⟩, hC.1⟩
    · obtain ⟨⟨v1, v2, v3, v4, v5, v6, v7, v8, v9, v10, v11, rfl⟩, hS1⟩ := P1
      walk_at "rd"
      intro p1 x1 np1 nx1 ne1
      have ok0 : So.ok ⟨some 3, Str.empty, Str.empty, false⟩ := ⟨rfl, rfl, by decide, by decide, (fun i q => by cases q; decide), (fun q => nomatch q)⟩
      refine ⟨p1, x1, ⟨some 3, Str.empty, Str.empty, false⟩, rfl, upd_same, ok0, fun G1 k1 st1 => ⟨rfl, ?_⟩⟩
      obtain ⟨d1, e1⟩ := id st1
      refine ⟨p1, _, d1, _, _, rfl, e1, T.cl_Setting, T.n_Setting_head, So.l2 _, ?_⟩
      walk_at "rd"
      intro p2 x2 np2 nx2 ne2
      refine ⟨p2, x2, ⟨some 3, Str.empty, Str.empty, false⟩, rfl, upd_same, ok0, fun G2 k2 st2 => ⟨rfl, ?_⟩⟩
      obtain ⟨d2, e2⟩ := id st2
      refine ⟨p2, _, d2, _, _, rfl, e2, T.cl_Setting, T.n_Setting_tail, So.l3 _, ?_⟩
      walk_at "rd"
      intro p3 x3 np3 nx3 ne3
      refine ⟨p3, x3, ⟨some 3, Str.empty, Str.empty, false⟩, rfl, upd_same, ok0, fun G3 k3 st3 => ⟨rfl, ?_⟩⟩
      obtain ⟨d3, e3⟩ := id st3
      refine ⟨p3, _, d3, _, _, rfl, e3, T.cl_Setting, T.n_Setting_is_turned, So.l4 _, ?_⟩
      walk_at "rd"
      intro T1 n1
      have dd : ∀ {H : Hp}, DpAll K H [.str Str.empty, .str Str.empty, .bl false] [.str Str.empty, .str Str.empty, .bool false] := .cons (.str _) (.cons (.str _) (.cons (.bl _) .nil))
      refine ⟨_, .tuple [.str Str.empty, .str Str.empty, .bool false], rfl, .tup (SqT.of upd_same) dd, by decide +kernel, by decide +kernel, le_lineN (by decide +kernel), ?_⟩
      walk_at "rd"
      intro T2 n2
      refine ⟨_, .tuple [.str Str.empty, .str Str.empty, .bool false], rfl, .tup (SqT.of upd_same) dd, by decide +kernel, by decide +kernel, le_lineN (by decide +kernel), ?_⟩
      refine ⟨rfl, _, rfl, iteNS rfl ?_⟩
      walk_at "rd"
      have ok1 : So.ok ⟨some 0, Str.empty, Str.empty, false⟩ := ⟨rfl, rfl, by decide, by decide, (fun i q => by cases q; decide), (fun q => nomatch q)⟩
      have ok2 : So.ok ⟨none, Str.empty, Str.empty, false⟩ := ⟨rfl, rfl, by decide, by decide, (fun i q => nomatch q), (fun q => ⟨rfl, rfl⟩)⟩
      have ok3 : So.ok ⟨none, "ab", Str.empty, false⟩ := ⟨by decide +kernel, rfl, by decide +kernel, by decide, (fun i q => nomatch q), (fun q => ⟨rfl, rfl⟩)⟩
      have t1 : So.txt ⟨some 0, Str.empty, Str.empty, false⟩ = ".0." := by unfold So.txt; decide +kernel
      have t2 : So.txt ⟨none, Str.empty, Str.empty, false⟩ = ".-." := by unfold So.txt; decide +kernel
      have t3 : So.over ⟨none, "ab", Str.empty, false⟩ "zz" = "ab" := by unfold So.over; rfl
      intro p4 x4 np4 nx4 ne4
      refine ⟨p4, x4, ⟨some 0, Str.empty, Str.empty, false⟩, rfl, upd_same, ok1, fun G4 k4 st4 => ⟨rfl, ?_⟩⟩
      obtain ⟨d4, e4⟩ := id st4
      refine ⟨p4, d4, _, rfl, e4, ⟨p4, _, rfl, st4, ok1, _, rfl, ?_⟩⟩
      rw [t1]
      refine ⟨rfl, _, rfl, iteT' (decide_eq_true rfl) ?_⟩
      walk_at "rd"
      intro p5 x5 np5 nx5 ne5
      refine ⟨p5, x5, ⟨none, Str.empty, Str.empty, false⟩, rfl, upd_same, ok2, fun G5 k5 st5 => ⟨rfl, ?_⟩⟩
      obtain ⟨d5, e5⟩ := id st5
      refine ⟨p5, d5, _, rfl, e5, ⟨p5, _, rfl, st5, ok2, _, rfl, ?_⟩⟩
      rw [t2]
      refine ⟨rfl, _, rfl, iteT' (decide_eq_true rfl) ?_⟩
      walk_at "rd"
      intro p6 x6 np6 nx6 ne6
      refine ⟨p6, x6, ⟨none, "ab", Str.empty, false⟩, rfl, upd_same, ok3, fun G6 k6 st6 => ⟨rfl, ?_⟩⟩
      obtain ⟨d6, e6⟩ := id st6
      refine ⟨p6, d6, _, rfl, e6, rfl, ⟨p6, "zz", ⟨none, "ab", Str.empty, false⟩, rfl, st6, ok3, by decide +kernel, ?_⟩⟩
      rw [t3]
      refine ⟨rfl, ?_⟩
      rw [decide_eq_true rfl]
      exact kk _

end
end My

namespace My
open PySem PySem.Spec PyProof.Rows L2

set_option maxHeartbeats 0 in
theorem all_mk {l : PySem.W.OpenLaw} {w : World} {K : PySem.W.Frag} {h : Heap} {mg : Str → Option Value} {fa : Addr} (X : K.In h) (G : h.Ns mainGlobals mg) (hfa : mg "law" = some (.ref fa))
    {f1 f2 f3 f4 f5 f6 f7 f8 f9 f10 f11 f12 f13 f14 f15 f16 f17 C0 : Addr} {od1 an1 od2 an2 od3 an3 od4 an4 od5 an5 od6 an6 od7 an7 od8 an8 od9 an9 od10 an10 od11 an11 od12 an12 od13 an13 od14 an14 od15 an15 od16 an16 od17 an17 : Option Addr} {sl1 sl2 sl3 sl4 sl5 sl6 sl7 sl8 sl9 sl10 sl11 sl12 sl13 sl14 sl15 sl16 sl17 : Array (Option Value)}
    {oc1 kV1 dc1 pm1 cd1 ct1 oc2 kV2 dc2 pm2 cd2 ct2 oc3 kV3 dc3 pm3 cd3 ct3 oc4 kV4 dc4 pm4 cd4 ct4 oc5 kV5 dc5 pm5 cd5 ct5 oc6 kV6 dc6 pm6 cd6 ct6 oc7 kV7 dc7 pm7 cd7 ct7 oc8 kV8 dc8 pm8 cd8 ct8 oc9 kV9 dc9 pm9 cd9 ct9 oc10 kV10 dc10 pm10 cd10 ct10 oc11 kV11 dc11 pm11 cd11 ct11 oc12 kV12 dc12 pm12 cd12 ct12 oc13 kV13 dc13 pm13 cd13 ct13 oc14 kV14 dc14 pm14 cd14 ct14 oc15 kV15 dc15 pm15 cd15 ct15 oc16 kV16 dc16 pm16 cd16 ct16 oc17 kV17 dc17 pm17 cd17 ct17 : Value}
    (gC0 : PySem.W.nsIn K mainGlobals "Setting" = some (some (.ref C0)))
    (ai0 : PySem.W.findIn K (.ref C0) "__init__" = some (some (.ref f5))) (if0 : PySem.W.isFn K (.ref f5) = true)
    (pg0 : PySem.W.plainGet K C0 Str.empty = true) (hd0 : PySem.W.hasDictIn K C0 = true) (po0 : PySem.W.plainOver K C0 = true) (sa0 : PySem.W.findIn K (.ref C0) "__setattr__" = some (some (.builtin "object.__setattr__"))) (mk0 : PySem.W.makesIn K C0 = true) (kc0 : PySem.W.keepIn K (.ref C0) = true)
    (n0_source : PySem.W.findIn K (.ref C0) "source" = some none)
    (n0_head : PySem.W.findIn K (.ref C0) "head" = some none)
    (n0_tail : PySem.W.findIn K (.ref C0) "tail" = some none)
    (n0_is_turned : PySem.W.findIn K (.ref C0) "is_turned" = some none)
    (ma6 : PySem.W.findIn K (.ref C0) "over" = some (some (.ref f6))) (mi6 : PySem.W.isFn K (.ref f6) = true)
    (ma7 : PySem.W.findIn K (.ref C0) "__eq__" = some (some (.ref f7))) (mi7 : PySem.W.isFn K (.ref f7) = true)
    (ma8 : PySem.W.findIn K (.ref C0) "__str__" = some (some (.ref f8))) (mi8 : PySem.W.isFn K (.ref f8) = true)
    (r_ca : PySem.W.findIn K (.ref C0) "__class__" = some (some (.builtin "object.__class__")))
    (r_mo : PySem.W.mroIn K C0 (.type "object") = some true)
    (r_cn : PySem.W.specialIn K (.builtin "object.__class__") "__get__" = some (some (.builtin "getset_descriptor.__get__")))
    (r_ct : PySem.W.takesIn K (.builtin "object.__class__") = some true)
    (r_ic : PySem.W.isClsIn K C0 = true)
    (r_ik : PySem.W.typeIn K (.ref C0) = some (.type "type"))
    (r_ne : PySem.W.findIn K (.ref C0) "__ne__" = some (some (.builtin "object.__ne__")))
    (r_s1 : PySem.W.subIn K (.ref C0) (.type "str") = some false)
    (r_s2 : PySem.W.subIn K (.ref C0) (.type "NoneType") = some false)
    (r_s3 : PySem.W.subIn K (.ref C0) (.type "tuple") = some false)
    (r_t1 : PySem.W.subIn K (.type "str") (.ref C0) = some false)
    (r_t2 : PySem.W.subIn K (.type "NoneType") (.ref C0) = some false)
    (r_t3 : PySem.W.subIn K (.type "tuple") (.ref C0) = some false)
    (a1 : PySem.W.nsIn K mainGlobals "is_integer" = some (some (.ref f1)))
    (l1 : K.lookup f1 = some ⟨oc1, od1, .func (PySem.W.fnOf "is_integer" "is_integer" (defArgs s_is_integer) (defBody s_is_integer) (defScope s_is_integer) .none kV1 dc1 pm1 an1 cd1 ct1), sl1⟩)
    (c1 : PySem.W.codeIn K cd1 "is_integer" = true) (k1 : PySem.W.keepIn K (.ref f1) = true)
    (a2 : PySem.W.nsIn K mainGlobals "is_number" = some (some (.ref f2)))
    (l2 : K.lookup f2 = some ⟨oc2, od2, .func (PySem.W.fnOf "is_number" "is_number" (defArgs s_is_number) (defBody s_is_number) (defScope s_is_number) .none kV2 dc2 pm2 an2 cd2 ct2), sl2⟩)
    (c2 : PySem.W.codeIn K cd2 "is_number" = true) (k2 : PySem.W.keepIn K (.ref f2) = true)
    (a3 : PySem.W.nsIn K mainGlobals "is_word" = some (some (.ref f3)))
    (l3 : K.lookup f3 = some ⟨oc3, od3, .func (PySem.W.fnOf "is_word" "is_word" (defArgs s_is_word) (defBody s_is_word) (defScope s_is_word) .none kV3 dc3 pm3 an3 cd3 ct3), sl3⟩)
    (c3 : PySem.W.codeIn K cd3 "is_word" = true) (k3 : PySem.W.keepIn K (.ref f3) = true)
    (a4 : PySem.W.nsIn K mainGlobals "first_wrong" = some (some (.ref f4)))
    (l4 : K.lookup f4 = some ⟨oc4, od4, .func (PySem.W.fnOf "first_wrong" "first_wrong" (defArgs s_first_wrong) (defBody s_first_wrong) (defScope s_first_wrong) .none kV4 dc4 pm4 an4 cd4 ct4), sl4⟩)
    (c4 : PySem.W.codeIn K cd4 "first_wrong" = true) (k4 : PySem.W.keepIn K (.ref f4) = true)
    {T5 : Addr} {tc5 : Value} {td5 : Option Addr} {tn5 : Nat} {ts5 : Array (Option Value)} {tk5 tl5 : Tok}
    (l5 : K.lookup f5 = some ⟨oc5, od5, .func (PySem.W.fnOf "__init__" "Setting.__init__" (defArgs s_Setting_init) (defBody s_Setting_init) (defScope s_Setting_init) (.ref T5) kV5 dc5 pm5 an5 cd5 ct5), sl5⟩)
    (lt5 : K.lookup T5 = some ⟨tc5, td5, .seq #[.str Str.empty tk5, .str Str.empty tl5, .bool false] tn5, ts5⟩)
    (c5 : PySem.W.codeIn K cd5 "Setting.__init__" = true) (k5 : PySem.W.keepIn K (.ref f5) = true)
    (l6 : K.lookup f6 = some ⟨oc6, od6, .func (PySem.W.fnOf "over" "Setting.over" (defArgs s_Setting_over) (defBody s_Setting_over) (defScope s_Setting_over) .none kV6 dc6 pm6 an6 cd6 ct6), sl6⟩)
    (c6 : PySem.W.codeIn K cd6 "Setting.over" = true) (k6 : PySem.W.keepIn K (.ref f6) = true)
    (l7 : K.lookup f7 = some ⟨oc7, od7, .func (PySem.W.fnOf "__eq__" "Setting.__eq__" (defArgs s_Setting_eq) (defBody s_Setting_eq) (defScope s_Setting_eq) .none kV7 dc7 pm7 an7 cd7 ct7), sl7⟩)
    (c7 : PySem.W.codeIn K cd7 "Setting.__eq__" = true) (k7 : PySem.W.keepIn K (.ref f7) = true)
    (l8 : K.lookup f8 = some ⟨oc8, od8, .func (PySem.W.fnOf "__str__" "Setting.__str__" (defArgs s_Setting_str) (defBody s_Setting_str) (defScope s_Setting_str) .none kV8 dc8 pm8 an8 cd8 ct8), sl8⟩)
    (c8 : PySem.W.codeIn K cd8 "Setting.__str__" = true) (k8 : PySem.W.keepIn K (.ref f8) = true)
    (a9 : PySem.W.nsIn K mainGlobals "_law_seed" = some (some (.ref f9)))
    (l9 : K.lookup f9 = some ⟨oc9, od9, .func (PySem.W.fnOf "_law_seed" "_law_seed" (defArgs s_seed) (defBody s_seed) (defScope s_seed) .none kV9 dc9 pm9 an9 cd9 ct9), sl9⟩)
    (c9 : PySem.W.codeIn K cd9 "_law_seed" = true) (k9 : PySem.W.keepIn K (.ref f9) = true)
    (a10 : PySem.W.nsIn K mainGlobals "_law_choose" = some (some (.ref f10)))
    (l10 : K.lookup f10 = some ⟨oc10, od10, .func (PySem.W.fnOf "_law_choose" "_law_choose" (defArgs s_choose) (defBody s_choose) (defScope s_choose) .none kV10 dc10 pm10 an10 cd10 ct10), sl10⟩)
    (c10 : PySem.W.codeIn K cd10 "_law_choose" = true) (k10 : PySem.W.keepIn K (.ref f10) = true)
    (a11 : PySem.W.nsIn K mainGlobals "_law_one_of" = some (some (.ref f11)))
    (l11 : K.lookup f11 = some ⟨oc11, od11, .func (PySem.W.fnOf "_law_one_of" "_law_one_of" (defArgs s_one_of) (defBody s_one_of) (defScope s_one_of) .none kV11 dc11 pm11 an11 cd11 ct11), sl11⟩)
    (c11 : PySem.W.codeIn K cd11 "_law_one_of" = true) (k11 : PySem.W.keepIn K (.ref f11) = true)
    (a12 : PySem.W.nsIn K mainGlobals "_law_told" = some (some (.ref f12)))
    (l12 : K.lookup f12 = some ⟨oc12, od12, .func (PySem.W.fnOf "_law_told" "_law_told" (defArgs s_told) (defBody s_told) (defScope s_told) .none kV12 dc12 pm12 an12 cd12 ct12), sl12⟩)
    (c12 : PySem.W.codeIn K cd12 "_law_told" = true) (k12 : PySem.W.keepIn K (.ref f12) = true)
    (a13 : PySem.W.nsIn K mainGlobals "_law_set_text" = some (some (.ref f13)))
    (l13 : K.lookup f13 = some ⟨oc13, od13, .func (PySem.W.fnOf "_law_set_text" "_law_set_text" (defArgs s_set_text) (defBody s_set_text) (defScope s_set_text) .none kV13 dc13 pm13 an13 cd13 ct13), sl13⟩)
    (c13 : PySem.W.codeIn K cd13 "_law_set_text" = true) (k13 : PySem.W.keepIn K (.ref f13) = true)
    (a14 : PySem.W.nsIn K mainGlobals "_law_over" = some (some (.ref f14)))
    (l14 : K.lookup f14 = some ⟨oc14, od14, .func (PySem.W.fnOf "_law_over" "_law_over" (defArgs s_over) (defBody s_over) (defScope s_over) .none kV14 dc14 pm14 an14 cd14 ct14), sl14⟩)
    (c14 : PySem.W.codeIn K cd14 "_law_over" = true) (k14 : PySem.W.keepIn K (.ref f14) = true)
    (a15 : PySem.W.nsIn K mainGlobals "_law_free" = some (some (.ref f15)))
    (l15 : K.lookup f15 = some ⟨oc15, od15, .func (PySem.W.fnOf "_law_free" "_law_free" (defArgs s_free) (defBody s_free) (defScope s_free) .none kV15 dc15 pm15 an15 cd15 ct15), sl15⟩)
    (c15 : PySem.W.codeIn K cd15 "_law_free" = true) (k15 : PySem.W.keepIn K (.ref f15) = true)
    (a16 : PySem.W.nsIn K mainGlobals "_law_set_of" = some (some (.ref f16)))
    (l16 : K.lookup f16 = some ⟨oc16, od16, .func (PySem.W.fnOf "_law_set_of" "_law_set_of" (defArgs s_set_of) (defBody s_set_of) (defScope s_set_of) .none kV16 dc16 pm16 an16 cd16 ct16), sl16⟩)
    (c16 : PySem.W.codeIn K cd16 "_law_set_of" = true) (k16 : PySem.W.keepIn K (.ref f16) = true)
    (a17 : PySem.W.nsIn K mainGlobals "law" = some (some (.ref f17)))
    (l17 : K.lookup f17 = some ⟨oc17, od17, .func (PySem.W.fnOf "law" "law" (defArgs s_law) (defBody s_law) (defScope s_law) .none kV17 dc17 pm17 an17 cd17 ct17), sl17⟩)
    (c17 : PySem.W.codeIn K cd17 "law" = true) (k17 : PySem.W.keepIn K (.ref f17) = true)
    (z_abs : PySem.W.nsIn K mainGlobals "abs" = some none)
    (z_all : PySem.W.nsIn K mainGlobals "all" = some none)
    (z_bool : PySem.W.nsIn K mainGlobals "bool" = some none)
    (z_int : PySem.W.nsIn K mainGlobals "int" = some none)
    (z_isinstance : PySem.W.nsIn K mainGlobals "isinstance" = some none)
    (z_len : PySem.W.nsIn K mainGlobals "len" = some none)
    (z_list : PySem.W.nsIn K mainGlobals "list" = some none)
    (z_max : PySem.W.nsIn K mainGlobals "max" = some none)
    (z_min : PySem.W.nsIn K mainGlobals "min" = some none)
    (z_range : PySem.W.nsIn K mainGlobals "range" = some none)
    (z_repr : PySem.W.nsIn K mainGlobals "repr" = some none)
    (z_str : PySem.W.nsIn K mainGlobals "str" = some none)
    : ∃ fd : FuncData, (∀ (s : Shared) (v : Value), BindsTo s fd ⟨[v], []⟩ [("_law_script", v)]) ∧ ∀ base : Heap, K.In base → base.Ns mainGlobals mg → FnAt l.prog w K mg base callerA fa fd ["_law_script"] (spLaw K) := by
  have e := hfa.symm.trans (PySem.W.mg_of X G a17)
  cases e
  have F1 : Fun K "is_integer" "is_integer" s_is_integer f1 (PySem.W.fnOf "is_integer" "is_integer" (defArgs s_is_integer) (defBody s_is_integer) (defScope s_is_integer) .none kV1 dc1 pm1 an1 cd1 ct1) := fun_mk l1 c1 k1
  have b1 := F1.binds (ps := ["value"]) fun _ _ _ _ _ _ us hl => match us, hl with | [_], _ => rfl
  have F2 : Fun K "is_number" "is_number" s_is_number f2 (PySem.W.fnOf "is_number" "is_number" (defArgs s_is_number) (defBody s_is_number) (defScope s_is_number) .none kV2 dc2 pm2 an2 cd2 ct2) := fun_mk l2 c2 k2
  have b2 := F2.binds (ps := ["value"]) fun _ _ _ _ _ _ us hl => match us, hl with | [_], _ => rfl
  have F3 : Fun K "is_word" "is_word" s_is_word f3 (PySem.W.fnOf "is_word" "is_word" (defArgs s_is_word) (defBody s_is_word) (defScope s_is_word) .none kV3 dc3 pm3 an3 cd3 ct3) := fun_mk l3 c3 k3
  have b3 := F3.binds (ps := ["value"]) fun _ _ _ _ _ _ us hl => match us, hl with | [_], _ => rfl
  have F4 : Fun K "first_wrong" "first_wrong" s_first_wrong f4 (PySem.W.fnOf "first_wrong" "first_wrong" (defArgs s_first_wrong) (defBody s_first_wrong) (defScope s_first_wrong) .none kV4 dc4 pm4 an4 cd4 ct4) := fun_mk l4 c4 k4
  have b4 := F4.binds (ps := ["source", "head", "tail", "is_turned"]) fun _ _ _ _ _ _ us hl => match us, hl with | [_, _, _, _], _ => rfl
  have F5 : FunD K "__init__" "Setting.__init__" (defArgs s_Setting_init) (defBody s_Setting_init) (defScope s_Setting_init) [.str Str.empty, .str Str.empty, .bl false] [] f5 (PySem.W.fnOf "__init__" "Setting.__init__" (defArgs s_Setting_init) (defBody s_Setting_init) (defScope s_Setting_init) (.ref T5) kV5 dc5 pm5 an5 cd5 ct5) :=
    ⟨⟨_, _, _, _, _, _, _, _, _, _, rfl, l5, c5, Or.inr ⟨by decide, T5, _, [.str Str.empty tk5, .str Str.empty tl5, .bool false], tn5, rfl, lt5, rfl, .cons ⟨_, rfl⟩ (.cons ⟨_, rfl⟩ (.cons rfl .nil))⟩, Or.inl rfl⟩, k5⟩
  have b5 : Binds K (PySem.W.fnOf "__init__" "Setting.__init__" (defArgs s_Setting_init) (defBody s_Setting_init) (defScope s_Setting_init) (.ref T5) kV5 dc5 pm5 an5 cd5 ct5) ["self", "source", "head", "tail", "is_turned"] [] := by
    obtain ⟨ds, r, b⟩ := F5.binds1 (ps := ["self", "source", "head", "tail", "is_turned"]) 5 3 (by decide) (by decide) fun _ _ _ _ _ _ _ us its hl hi => match us, hl, its, hi with | [_, _, _, _, _], _, [_, _, _], _ => ⟨_, rfl, rfl⟩
    cases r
    exact b
  have b2_Setting_init := F5.binds1 (ps := ["self", "source", "head", "tail", "is_turned"]) 2 0 (by decide) (by decide) fun _ _ _ _ _ _ _ us its hl hi => match us, hl, its, hi with | [_, _], _, [_, _, _], _ => ⟨_, rfl, rfl⟩
  have b3_Setting_init := F5.binds1 (ps := ["self", "source", "head", "tail", "is_turned"]) 3 1 (by decide) (by decide) fun _ _ _ _ _ _ _ us its hl hi => match us, hl, its, hi with | [_, _, _], _, [_, _, _], _ => ⟨_, rfl, rfl⟩
  have F6 : Fun K "over" "Setting.over" s_Setting_over f6 (PySem.W.fnOf "over" "Setting.over" (defArgs s_Setting_over) (defBody s_Setting_over) (defScope s_Setting_over) .none kV6 dc6 pm6 an6 cd6 ct6) := fun_mk l6 c6 k6
  have b6 := F6.binds (ps := ["self", "text"]) fun _ _ _ _ _ _ us hl => match us, hl with | [_, _], _ => rfl
  have F7 : Fun K "__eq__" "Setting.__eq__" s_Setting_eq f7 (PySem.W.fnOf "__eq__" "Setting.__eq__" (defArgs s_Setting_eq) (defBody s_Setting_eq) (defScope s_Setting_eq) .none kV7 dc7 pm7 an7 cd7 ct7) := fun_mk l7 c7 k7
  have b7 := F7.binds (ps := ["self", "other"]) fun _ _ _ _ _ _ us hl => match us, hl with | [_, _], _ => rfl
  have F8 : Fun K "__str__" "Setting.__str__" s_Setting_str f8 (PySem.W.fnOf "__str__" "Setting.__str__" (defArgs s_Setting_str) (defBody s_Setting_str) (defScope s_Setting_str) .none kV8 dc8 pm8 an8 cd8 ct8) := fun_mk l8 c8 k8
  have b8 := F8.binds (ps := ["self"]) fun _ _ _ _ _ _ us hl => match us, hl with | [_], _ => rfl
  have F9 : Fun K "_law_seed" "_law_seed" s_seed f9 (PySem.W.fnOf "_law_seed" "_law_seed" (defArgs s_seed) (defBody s_seed) (defScope s_seed) .none kV9 dc9 pm9 an9 cd9 ct9) := fun_mk l9 c9 k9
  have b9 := F9.binds (ps := ["_law_script", "_law_k"]) fun _ _ _ _ _ _ us hl => match us, hl with | [_, _], _ => rfl
  have F10 : Fun K "_law_choose" "_law_choose" s_choose f10 (PySem.W.fnOf "_law_choose" "_law_choose" (defArgs s_choose) (defBody s_choose) (defScope s_choose) .none kV10 dc10 pm10 an10 cd10 ct10) := fun_mk l10 c10 k10
  have b10 := F10.binds (ps := ["_law_box", "_law_many"]) fun _ _ _ _ _ _ us hl => match us, hl with | [_, _], _ => rfl
  have F11 : Fun K "_law_one_of" "_law_one_of" s_one_of f11 (PySem.W.fnOf "_law_one_of" "_law_one_of" (defArgs s_one_of) (defBody s_one_of) (defScope s_one_of) .none kV11 dc11 pm11 an11 cd11 ct11) := fun_mk l11 c11 k11
  have b11 := F11.binds (ps := ["_law_box", "_law_some"]) fun _ _ _ _ _ _ us hl => match us, hl with | [_, _], _ => rfl
  have F12 : Fun K "_law_told" "_law_told" s_told f12 (PySem.W.fnOf "_law_told" "_law_told" (defArgs s_told) (defBody s_told) (defScope s_told) .none kV12 dc12 pm12 an12 cd12 ct12) := fun_mk l12 c12 k12
  have b12 := F12.binds (ps := ["_law_box", "_law_marks", "_law_most"]) fun _ _ _ _ _ _ us hl => match us, hl with | [_, _, _], _ => rfl
  have F13 : Fun K "_law_set_text" "_law_set_text" s_set_text f13 (PySem.W.fnOf "_law_set_text" "_law_set_text" (defArgs s_set_text) (defBody s_set_text) (defScope s_set_text) .none kV13 dc13 pm13 an13 cd13 ct13) := fun_mk l13 c13 k13
  have b13 := F13.binds (ps := ["_law_one"]) fun _ _ _ _ _ _ us hl => match us, hl with | [_], _ => rfl
  have F14 : Fun K "_law_over" "_law_over" s_over f14 (PySem.W.fnOf "_law_over" "_law_over" (defArgs s_over) (defBody s_over) (defScope s_over) .none kV14 dc14 pm14 an14 cd14 ct14) := fun_mk l14 c14 k14
  have b14 := F14.binds (ps := ["_law_one", "_law_cells"]) fun _ _ _ _ _ _ us hl => match us, hl with | [_, _], _ => rfl
  have F15 : Fun K "_law_free" "_law_free" s_free f15 (PySem.W.fnOf "_law_free" "_law_free" (defArgs s_free) (defBody s_free) (defScope s_free) .none kV15 dc15 pm15 an15 cd15 ct15) := fun_mk l15 c15 k15
  have b15 := F15.binds (ps := ["_law_box", "_law_marks"]) fun _ _ _ _ _ _ us hl => match us, hl with | [_, _], _ => rfl
  have F16 : Fun K "_law_set_of" "_law_set_of" s_set_of f16 (PySem.W.fnOf "_law_set_of" "_law_set_of" (defArgs s_set_of) (defBody s_set_of) (defScope s_set_of) .none kV16 dc16 pm16 an16 cd16 ct16) := fun_mk l16 c16 k16
  have b16 := F16.binds (ps := ["_law_one"]) fun _ _ _ _ _ _ us hl => match us, hl with | [_], _ => rfl
  have F17 : Fun K "law" "law" s_law fa (PySem.W.fnOf "law" "law" (defArgs s_law) (defBody s_law) (defScope s_law) .none kV17 dc17 pm17 an17 cd17 ct17) := fun_mk l17 c17 k17
  have b17 := F17.binds (ps := ["_law_script"]) fun _ _ _ _ _ _ us hl => match us, hl with | [_], _ => rfl
  have T : Txt K mg ⟨f1, f2, f3, f4, f5, f6, f7, f8, f9, f10, f11, f12, f13, f14, f15, f16, fa,
    (PySem.W.fnOf "is_integer" "is_integer" (defArgs s_is_integer) (defBody s_is_integer) (defScope s_is_integer) .none kV1 dc1 pm1 an1 cd1 ct1),
    (PySem.W.fnOf "is_number" "is_number" (defArgs s_is_number) (defBody s_is_number) (defScope s_is_number) .none kV2 dc2 pm2 an2 cd2 ct2),
    (PySem.W.fnOf "is_word" "is_word" (defArgs s_is_word) (defBody s_is_word) (defScope s_is_word) .none kV3 dc3 pm3 an3 cd3 ct3),
    (PySem.W.fnOf "first_wrong" "first_wrong" (defArgs s_first_wrong) (defBody s_first_wrong) (defScope s_first_wrong) .none kV4 dc4 pm4 an4 cd4 ct4),
    (PySem.W.fnOf "__init__" "Setting.__init__" (defArgs s_Setting_init) (defBody s_Setting_init) (defScope s_Setting_init) (.ref T5) kV5 dc5 pm5 an5 cd5 ct5),
    (PySem.W.fnOf "over" "Setting.over" (defArgs s_Setting_over) (defBody s_Setting_over) (defScope s_Setting_over) .none kV6 dc6 pm6 an6 cd6 ct6),
    (PySem.W.fnOf "__eq__" "Setting.__eq__" (defArgs s_Setting_eq) (defBody s_Setting_eq) (defScope s_Setting_eq) .none kV7 dc7 pm7 an7 cd7 ct7),
    (PySem.W.fnOf "__str__" "Setting.__str__" (defArgs s_Setting_str) (defBody s_Setting_str) (defScope s_Setting_str) .none kV8 dc8 pm8 an8 cd8 ct8),
    (PySem.W.fnOf "_law_seed" "_law_seed" (defArgs s_seed) (defBody s_seed) (defScope s_seed) .none kV9 dc9 pm9 an9 cd9 ct9),
    (PySem.W.fnOf "_law_choose" "_law_choose" (defArgs s_choose) (defBody s_choose) (defScope s_choose) .none kV10 dc10 pm10 an10 cd10 ct10),
    (PySem.W.fnOf "_law_one_of" "_law_one_of" (defArgs s_one_of) (defBody s_one_of) (defScope s_one_of) .none kV11 dc11 pm11 an11 cd11 ct11),
    (PySem.W.fnOf "_law_told" "_law_told" (defArgs s_told) (defBody s_told) (defScope s_told) .none kV12 dc12 pm12 an12 cd12 ct12),
    (PySem.W.fnOf "_law_set_text" "_law_set_text" (defArgs s_set_text) (defBody s_set_text) (defScope s_set_text) .none kV13 dc13 pm13 an13 cd13 ct13),
    (PySem.W.fnOf "_law_over" "_law_over" (defArgs s_over) (defBody s_over) (defScope s_over) .none kV14 dc14 pm14 an14 cd14 ct14),
    (PySem.W.fnOf "_law_free" "_law_free" (defArgs s_free) (defBody s_free) (defScope s_free) .none kV15 dc15 pm15 an15 cd15 ct15),
    (PySem.W.fnOf "_law_set_of" "_law_set_of" (defArgs s_set_of) (defBody s_set_of) (defScope s_set_of) .none kV16 dc16 pm16 an16 cd16 ct16),
    (PySem.W.fnOf "law" "law" (defArgs s_law) (defBody s_law) (defScope s_law) .none kV17 dc17 pm17 an17 cd17 ct17), C0⟩ :=
    ⟨PySem.W.mg_of X G a1,
    k1,
    F1,
    b1,
    PySem.W.mg_of X G a2,
    k2,
    F2,
    b2,
    PySem.W.mg_of X G a3,
    k3,
    F3,
    b3,
    PySem.W.mg_of X G a4,
    k4,
    F4,
    b4,
    F5,
    b5,
    k6,
    F6,
    b6,
    k7,
    F7,
    b7,
    k8,
    F8,
    b8,
    PySem.W.mg_of X G a9,
    k9,
    F9,
    b9,
    PySem.W.mg_of X G a10,
    k10,
    F10,
    b10,
    PySem.W.mg_of X G a11,
    k11,
    F11,
    b11,
    PySem.W.mg_of X G a12,
    k12,
    F12,
    b12,
    PySem.W.mg_of X G a13,
    k13,
    F13,
    b13,
    PySem.W.mg_of X G a14,
    k14,
    F14,
    b14,
    PySem.W.mg_of X G a15,
    k15,
    F15,
    b15,
    PySem.W.mg_of X G a16,
    k16,
    F16,
    b16,
    PySem.W.mg_of X G a17,
    k17,
    F17,
    b17,
    PySem.W.mg_of X G gC0,
    ⟨pg0, hd0, po0, sa0⟩,
    ⟨mk0, ai0, if0, kc0⟩,
    n0_source,
    n0_head,
    n0_tail,
    n0_is_turned,
    ⟨ma6, mi6, k6⟩,
    ⟨ma7, mi7, k7⟩,
    ⟨ma8, mi8, k8⟩,
    r_ca,
    r_mo,
    r_cn,
    r_ct,
    r_ic,
    r_ik,
    r_ne,
    r_s1,
    r_s2,
    r_s3,
    r_t1,
    r_t2,
    r_t3,
    b2_Setting_init,
    b3_Setting_init,
    PySem.W.mg_none_of X G z_abs,
    PySem.W.mg_none_of X G z_all,
    PySem.W.mg_none_of X G z_bool,
    PySem.W.mg_none_of X G z_int,
    PySem.W.mg_none_of X G z_isinstance,
    PySem.W.mg_none_of X G z_len,
    PySem.W.mg_none_of X G z_list,
    PySem.W.mg_none_of X G z_max,
    PySem.W.mg_none_of X G z_min,
    PySem.W.mg_none_of X G z_range,
    PySem.W.mg_none_of X G z_repr,
    PySem.W.mg_none_of X G z_str⟩
  exact ⟨(PySem.W.fnOf "law" "law" (defArgs s_law) (defBody s_law) (defScope s_law) .none kV17 dc17 pm17 an17 cd17 ct17), fun s v => .of_eq rfl, fun base _ _ => ok_law T⟩
end My
open PySem PySem.W PyProof.Rows
set_option maxHeartbeats 0 in
theorem PySem.Challenge.cw_growntexts_k02_settings_made_holds : PySem.Challenge.rw_growntexts_k02_settings_made.Holds := by
  w_on; o_law; k_head; (case hw => w_witness2)
  k_fill
  refine My.walk_at_ (l := PySem.Challenge.rw_growntexts_k02_settings_made) (n := 63) (x := "_law_script") (sp := fun w => My.spLaw _) rfl (by decide) rfl
    (fun w h Y => PySem.W.kIn_of Y) ?F (fun _ _ a ns hl _ hS => ⟨a, ns, rfl, hS, hl, fun _ => rfl⟩)
  case F =>
    intro w mg fa h KX G hmg
    refine' My.all_mk KX G hmg ?gC0 ?ai0 ?if0 ?pg0 ?hd0 ?po0 ?sa0 ?mk0 ?kc0 ?n0_source ?n0_head ?n0_tail ?n0_is_turned ?ma6 ?mi6 ?ma7 ?mi7 ?ma8 ?mi8 ?r_ca ?r_mo ?r_cn ?r_ct ?r_ic ?r_ik ?r_ne ?r_s1 ?r_s2 ?r_s3 ?r_t1 ?r_t2 ?r_t3 ?a1 ?l1 ?c1 ?k1 ?a2 ?l2 ?c2 ?k2 ?a3 ?l3 ?c3 ?k3 ?a4 ?l4 ?c4 ?k4 ?l5 ?lt5 ?c5 ?k5 ?l6 ?c6 ?k6 ?l7 ?c7 ?k7 ?l8 ?c8 ?k8 ?a9 ?l9 ?c9 ?k9 ?a10 ?l10 ?c10 ?k10 ?a11 ?l11 ?c11 ?k11 ?a12 ?l12 ?c12 ?k12 ?a13 ?l13 ?c13 ?k13 ?a14 ?l14 ?c14 ?k14 ?a15 ?l15 ?c15 ?k15 ?a16 ?l16 ?c16 ?k16 ?a17 ?l17 ?c17 ?k17 ?z_abs ?z_all ?z_bool ?z_int ?z_isinstance ?z_len ?z_list ?z_max ?z_min ?z_range ?z_repr ?z_str
    (case gC0 => k_is)
    (case ai0 => k_is)
    (case if0 => k_is)
    (case pg0 => k_is)
    (case hd0 => k_is)
    (case po0 => k_is)
    (case sa0 => k_is)
    (case mk0 => k_is)
    (case kc0 => k_is)
    (case n0_source => k_is)
    (case n0_head => k_is)
    (case n0_tail => k_is)
    (case n0_is_turned => k_is)
    (case ma6 => k_is)
    (case mi6 => k_is)
    (case ma7 => k_is)
    (case mi7 => k_is)
    (case ma8 => k_is)
    (case mi8 => k_is)
    (case r_ca => k_is)
    (case r_mo => k_is)
    (case r_cn => k_is)
    (case r_ct => k_is)
    (case r_ic => k_is)
    (case r_ik => k_is)
    (case r_ne => k_is)
    (case r_s1 => k_is)
    (case r_s2 => k_is)
    (case r_s3 => k_is)
    (case r_t1 => k_is)
    (case r_t2 => k_is)
    (case r_t3 => k_is)
    (case a1 => k_is)
    (case l1 => k_is)
    (case c1 => k_is)
    (case k1 => k_is)
    (case a2 => k_is)
    (case l2 => k_is)
    (case c2 => k_is)
    (case k2 => k_is)
    (case a3 => k_is)
    (case l3 => k_is)
    (case c3 => k_is)
    (case k3 => k_is)
    (case a4 => k_is)
    (case l4 => k_is)
    (case c4 => k_is)
    (case k4 => k_is)
    (case l5 => k_is)
    (case lt5 => k_is)
    (case c5 => k_is)
    (case k5 => k_is)
    (case l6 => k_is)
    (case c6 => k_is)
    (case k6 => k_is)
    (case l7 => k_is)
    (case c7 => k_is)
    (case k7 => k_is)
    (case l8 => k_is)
    (case c8 => k_is)
    (case k8 => k_is)
    (case a9 => k_is)
    (case l9 => k_is)
    (case c9 => k_is)
    (case k9 => k_is)
    (case a10 => k_is)
    (case l10 => k_is)
    (case c10 => k_is)
    (case k10 => k_is)
    (case a11 => k_is)
    (case l11 => k_is)
    (case c11 => k_is)
    (case k11 => k_is)
    (case a12 => k_is)
    (case l12 => k_is)
    (case c12 => k_is)
    (case k12 => k_is)
    (case a13 => k_is)
    (case l13 => k_is)
    (case c13 => k_is)
    (case k13 => k_is)
    (case a14 => k_is)
    (case l14 => k_is)
    (case c14 => k_is)
    (case k14 => k_is)
    (case a15 => k_is)
    (case l15 => k_is)
    (case c15 => k_is)
    (case k15 => k_is)
    (case a16 => k_is)
    (case l16 => k_is)
    (case c16 => k_is)
    (case k16 => k_is)
    (case a17 => k_is)
    (case l17 => k_is)
    (case c17 => k_is)
    (case k17 => k_is)
    (case z_abs => k_is)
    (case z_all => k_is)
    (case z_bool => k_is)
    (case z_int => k_is)
    (case z_isinstance => k_is)
    (case z_len => k_is)
    (case z_list => k_is)
    (case z_max => k_is)
    (case z_min => k_is)
    (case z_range => k_is)
    (case z_repr => k_is)
    (case z_str => k_is)
