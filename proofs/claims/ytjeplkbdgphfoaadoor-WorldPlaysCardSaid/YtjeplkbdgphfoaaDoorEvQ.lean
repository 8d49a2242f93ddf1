/-
  A run that is reckoned over blocks with names of its own: the operations over tables that are looked up fast: no function of a program is named here.
-/
import Derived.Test.YtjeplkbdgphfoaaDoorEvN
namespace Go.Proofs.YtjeplkbdgphfoaaDoor
open Go.RowKit
noncomputable section

/-- A program's types and functions, looked up. -/
structure Rt where
  info : TypeId → Option TypeInfo
  und : TypeId → Option TypeDesc
  fn : FuncId → Option Func
def Rt.Ok (R : Rt) (P : Program) : Prop := R.info = P.info? ∧ R.und = P.underlying ∧ R.fn = fun f => P.funcs[f]?

def loadPQ (R : Rt) (t : TypeId) (v : Value) (k : Value → Prog) : Prog :=
  match v with
  | .pointer (some ⟨b, o, none⟩) =>
    match R.und t with
    | some d => if d.isRow then (match R.info t with | some i => rdN b i.size o [] fun l => k (.agg ⟨l⟩) | none => .fail) else .rd b o k
    | none => .fail
  | _ => .fail

def resPQ (R : Rt) (tm : Tmp → Value) : List ResultVar → List Value → (List Value → Prog) → Prog
  | [], acc, k => k acc.reverse
  | .tmp t :: l, acc, k => resPQ R tm l (tm t :: acc) k
  | .cell a t :: l, acc, k => loadPQ R t (tm a) fun v => resPQ R tm l (v :: acc) k

def storePQ (R : Rt) (t : TypeId) (p v : Value) : Prog :=
  match p with
  | .pointer (some ⟨b, o, none⟩) => match R.info t with
    | some i => if v.cells.size = i.size then wrL b o v.cells.toList .skip else .fail
    | none => .fail
  | _ => .fail

def zeroPQ (R : Rt) (t : TypeId) : Option Value := match R.info t with
  | some i => match i.zero with
    | some z => if ground z then some z else none
    | none => none
  | none => none

def allocPQ (R : Rt) (t : TypeId) : Prog := match zeroPQ R t with
  | some z => newP t z
  | none => .fail

def fieldPQ (R : Rt) (s : TypeId) (v : Value) (f : Nat) : Prog := match v with
  | .pointer (some ⟨b, o, none⟩) => match R.und s with
    | some (.struct fields) => match fields[f]? with
      | some fd => match R.info fd.type with
        | some i => if Nat.beq i.size 0 then .fail else .val (.pointer (some ⟨b, o + fd.offset, none⟩))
        | none => .fail
      | none => .fail
    | _ => .fail
  | _ => .fail

def ixPQ (R : Rt) (t : TypeId) (v ix : Value) : Prog := match v, ix with
  | .slice (some ⟨b, o, none⟩) len _, .int _ i => match R.und t with
    | some (.slice e) => match R.info e with
      | some inf => if 0 ≤ i ∧ i < len then .val (.pointer (some ⟨b, o + i.toNat * inf.size, none⟩)) else .fail
      | none => .fail
    | _ => .fail
  | .pointer (some ⟨b, o, none⟩), .int _ i => match R.und t with
    | some (.array len e) => match R.info e with
      | some inf => if 0 ≤ i ∧ i < len then .val (.pointer (some ⟨b, o + i.toNat * inf.size, none⟩)) else .fail
      | none => .fail
    | _ => .fail
  | _, _ => .fail

def slPQ (R : Rt) (t : TypeId) (x : Value) (lo hi : Option Value) : Prog := match x, R.und t with
  | .slice (some ⟨b, o, none⟩) n k, some (.slice e) => match R.info e, boundOf lo 0, boundOf hi n with
    | some inf, some l, some h =>
      if Nat.ble l h then
        if Nat.beq k unk then (if Nat.ble h n then (if Nat.beq l 0 then .val (.slice (some ⟨b, o, none⟩) h unk) else (if Nat.blt l n then .val (.slice (some ⟨b, o + l * inf.size, none⟩) (h - l) unk2) else .val (.slice (some ⟨b, o, none⟩) 0 unk2))) else .fail)
        else if Nat.beq k unk2 then (if Nat.ble h n then (if Nat.blt l n then .val (.slice (some ⟨b, o + l * inf.size, none⟩) (h - l) unk2) else .val (.slice (some ⟨b, o, none⟩) 0 unk2)) else .fail)
        else if Nat.ble h k then (if Nat.blt k unk then .val (.slice (some ⟨b, if Nat.beq k l then o else o + l * inf.size, none⟩) (h - l) (k - l)) else .fail) else .fail
      else .fail
    | _, _, _ => .fail
  | _, _ => .fail

def slAPQ (R : Rt) (t : TypeId) (x : Value) (lo hi : Option Value) : Prog := match x, R.und t with
  | .pointer (some ⟨b, o, none⟩), some (.array n e) => match R.info e, boundOf lo 0, boundOf hi n with
    | some inf, some l, some h =>
      if Nat.ble l h && Nat.ble h n && Nat.blt n unk then .val (.slice (some ⟨b, if Nat.beq n l then o else o + l * inf.size, none⟩) (h - l) (n - l)) else .fail
    | _, _, _ => .fail
  | _, _ => .fail

def fieldVPQ (R : Rt) (t : TypeId) (x : Value) (f : Nat) : Prog := match x, R.und t with
  | .agg ⟨l⟩, some (.struct fields) => match fields[f]? with
    | some fd => match R.und fd.type, R.info fd.type with
      | some d, some i => if d.isRow then .val (.agg ⟨(l.drop fd.offset).take i.size⟩) else match l[fd.offset]? with
        | some v => .val v
        | none => .fail
      | _, _ => .fail
    | none => .fail
  | _, _ => .fail

def mkPQ (R : Rt) (t : TypeId) (l c : Value) : Prog := match l, c, R.und t with
  | .int _ l, .int _ c, some (.slice e) => match R.info e, zeroPQ R e with
    | some i, some z =>
      if 0 ≤ l ∧ l ≤ c ∧ c < 4294967296 ∧ (i.bytes : Int) * c ≤ 281474976710656 ∧ (mkL z.cells.toList (c.toNat * i.size)).all flat = true then
        .nw (e, 0) (mkL z.cells.toList (c.toNat * i.size)) fun b => .val (.slice (some ⟨b, 0, none⟩) l.toNat c.toNat)
      else .fail
    | _, _ => .fail
  | _, _, _ => .fail

def placeOfQ (R : Rt) (fields : Array Field) (i : Nat) : Option (Nat × Nat) := match fields[i]? with
  | some f => match R.info f.type with
    | some inf => some (f.offset, inf.size)
    | none => none
  | none => none

def buildPQ (R : Rt) (t : TypeId) (parts : List (Nat × Value)) : Prog := match R.und t, zeroPQ R t with
  | some (.struct fields), some z =>
    if fields.toList.all fun f => (R.info f.type).isSome then
      if z.cells.toList.all flat then match fillL (placeOfQ R fields) z.cells.toList parts with
        | some cs => .val (.agg ⟨cs⟩)
        | none => .fail
      else .fail
    else .fail
  | some (.array _ e), some z => match R.info e with
    | some inf => if z.cells.toList.all flat then match fillL (fun i => some (i * inf.size, inf.size)) z.cells.toList parts with
        | some cs => .val (.agg ⟨cs⟩)
        | none => .fail
      else .fail
    | none => .fail
  | _, _ => .fail

def buildSPQ (R : Rt) (t : TypeId) (n : Nat) (parts : List (Nat × Value)) : Prog := match R.und t with
  | some (.slice e) => match R.info e, zeroPQ R e with
    | some inf, some z =>
      if n < 65536 ∧ 0 < n * inf.size ∧ n * inf.size ≤ 16777216 ∧ (mkL z.cells.toList (n * inf.size)).all flat = true then match fillL (fun i => some (i * inf.size, inf.size)) (mkL z.cells.toList (n * inf.size)) parts with
        | some cs => .nw (e, 0) cs fun b => .val (.slice (some ⟨b, 0, none⟩) n n)
        | none => .fail
      else match Nat.beq n 0, parts with
        | true, [] => .nw (e, 0) [] fun b => .val (.slice (some ⟨b, 0, none⟩) 0 0)
        | _, _ => .fail
    | _, _ => .fail
  | _ => .fail

def appendPQ (R : Rt) (t : TypeId) (s x : Value) : Prog := match R.und t with
  | some (.slice e) => match R.info e, zeroPQ R e with
    | some inf, some z =>
      if 0 < inf.size ∧ z.cells.size = inf.size ∧ inf.size < ro then
        srcP inf.size x fun m us =>
          if Nat.beq m 0 then (match s with
            | .slice none n k => if Nat.ble n k then .val (.slice none n k) else .fail
            | .slice (some ⟨a, o, none⟩) n k => if Nat.beq k unk2 then .fail else if Nat.ble n k then .val (.slice (some ⟨a, o, none⟩) n k) else .fail
            | _ => .fail)
          else match s with
          | .slice none n k => if Nat.beq n 0 && Nat.beq k 0 && Nat.ble m 4294967296 && Nat.ble (m * inf.bytes) 140737488355328 && us.all one then .nw (e, inf.size) us fun b => .val (.slice (some ⟨b, 0, none⟩) m unk) else .fail
          | .slice (some ⟨a, o, none⟩) n k =>
            if Nat.ble (n + m) 4294967296 && Nat.ble ((n + m) * inf.bytes) 140737488355328 && us.all one then
              if Nat.beq k unk then .mv a (e, inf.size) (n * inf.size) us fun b => .val (.slice (some ⟨b, 0, none⟩) (n + m) unk)
              else if Nat.beq k unk2 then .fail
              else if Nat.ble (n + m) k then wrL a (o + n * inf.size) us (.val (.slice (some ⟨a, o, none⟩) (n + m) k))
              else rdN a (n * inf.size) o [] fun olds => .nw (e, inf.size) (olds ++ us) fun b => .val (.slice (some ⟨b, 0, none⟩) (n + m) unk)
            else .fail
          | _ => .fail
      else .fail
    | _, _ => .fail
  | _ => .fail

def uptrPQ (P : Program) (R : Rt) (src dst : TypeId) (v : Value) : Prog := match v, R.und src, R.und dst with
  | .pointer (some ⟨b, o, none⟩), some (.pointer t), some .unsafePointer => (match R.info t with
    | some j => if Nat.beq j.size 0 then .fail else .rd b o fun _ => .val (.pointer (some ⟨b, o, none⟩))
    | none => .fail)
  | .pointer (some ⟨b, o, none⟩), some .unsafePointer, some (.pointer u) => (match R.info u with
    | some _ => .tq b fun e => (match R.info e with
      | some i => if Nat.beq i.size 0 then .fail else (match liesAt P P.depth e 1 o u 1 with
        | true => .rd b (i.size - 1) fun _ => .val (.pointer (some ⟨b, o, none⟩))
        | false => .fail)
      | none => .fail)
    | none => .fail)
  | _, _, _ => .fail

def uStrPQ (R : Rt) (pt : TypeId) (p n : Value) : Prog := match p, n, R.und pt with
  | .pointer none, .int .i64 (.ofNat 0), some (.pointer _) => .val (.string ⟨⟨[]⟩⟩)
  | .pointer (some ⟨b, o, none⟩), .int .i64 (.ofNat n), some (.pointer e) => (match R.info e with
    | some inf => if Nat.beq inf.size 1 && Nat.beq o 0 && Nat.blt 0 n && Nat.ble n 4294967296 then rdN b n 0 [] fun l => (match byteL l with
        | some s => .mv b (e, ro) n [] fun _ => .val (.string ⟨⟨s⟩⟩)
        | none => .fail) else .fail
    | none => .fail)
  | _, _, _ => .fail

def appendSPQ (R : Rt) (t u : TypeId) (s : Value) (str : List UInt8) : Prog := match R.und t, R.und u with
  | some (.slice e), some .string => (match R.info e, zeroPQ R e with
    | some inf, some z =>
      if inf.size = 1 ∧ inf.bytes = 1 ∧ z.cells.size = 1 then (match s with
        | .slice none n k => if Nat.beq str.length 0 then (if Nat.ble n k then .val (.slice none n k) else .fail)
          else if Nat.beq n 0 && Nat.beq k 0 && Nat.ble str.length 4294967296 then .nw (e, 1) (bytesV str) fun b => .val (.slice (some ⟨b, 0, none⟩) str.length unk) else .fail
        | .slice (some ⟨a, o, none⟩) n k => if Nat.beq k unk && Nat.ble (n + str.length) 4294967296 then (if Nat.beq str.length 0 then .val (.slice (some ⟨a, o, none⟩) n k) else .mv a (e, 1) n (bytesV str) fun b => .val (.slice (some ⟨b, 0, none⟩) (n + str.length) unk)) else .fail
        | _ => .fail)
      else .fail
    | _, _ => .fail)
  | _, _ => .fail

def appendZPQ (R : Rt) (t u : TypeId) (s : Value) (i : Int) : Prog := match R.und t, R.und u with
  | some (.slice e), some (.int _) => (match R.info e, zeroPQ R e with
    | some inf, some (.int kz nz) =>
      if inf.size = 1 ∧ 0 < i ∧ i ≤ 16777216 then (match s with
        | .slice (some ⟨a, o, none⟩) n k =>
          if Nat.ble (n + i.toNat) 4294967296 && Nat.ble ((n + i.toNat) * inf.bytes) 140737488355328 then
            if Nat.beq k unk then .mv a (e, 1) n (List.replicate i.toNat (.int kz nz)) fun b => .val (.slice (some ⟨b, 0, none⟩) (n + i.toNat) unk)
            else if Nat.beq k unk2 then .fail
            else if Nat.ble (n + i.toNat) k then .fail
            else rdN a n o [] fun olds => .nw (e, 1) (olds ++ List.replicate i.toNat (.int kz nz)) fun b => .val (.slice (some ⟨b, 0, none⟩) (n + i.toNat) unk)
          else .fail
        | _ => .fail)
      else .fail
    | _, _ => .fail)
  | _, _ => .fail

def ptrBQ (R : Rt) (t : TypeId) (op : BinOp) (a b : Addr) : Prog :=
  if Nat.beq a.block b.block && Nat.beq a.off b.off && a.spot.isNone && b.spot.isNone then (match R.und t with
    | some (.pointer te) => (match R.info te with
      | some _ => (match op with
        | .eql => .val (.bool true)
        | .neq => .val (.bool false)
        | _ => .fail)
      | none => .fail)
    | _ => .fail) else .fail

def copyPQ (R : Rt) (t : TypeId) (d s : Value) : Prog := match R.und t with
  | some (.slice e) => match R.info e with
    | some inf => match d, s with
      | .slice (some ⟨b, o, none⟩) n _, .slice (some ⟨a, p, none⟩) m _ => if Nat.beq (Nat.min m n) 0 then .val (goInt 0) else rdN a (Nat.min m n * inf.size) p [] fun us => wrL b o us (.val (goInt (Nat.min m n)))
      | .slice _ n _, .slice none m _ => if Nat.beq (Nat.min m n) 0 then .val (goInt 0) else .fail
      | .slice none n _, .slice _ m _ => if Nat.beq (Nat.min m n) 0 then .val (goInt 0) else .fail
      | _, _ => .fail
    | none => .fail
  | _ => .fail

def keyKindQ (R : Rt) (t : TypeId) : Option TypeDesc := match R.und t with
  | some (.int k) => some (.int k)
  | some .string => some .string
  | _ => none

def lookPQ (R : Rt) (t : TypeId) (x k : Value) (ok : Bool) : Prog := match R.und t with
  | some (.map kt et) => (match keyKindQ R kt with
    | some d => (match x with
      | .map (some b) => .mrd b fun _ l => (match findL d k l with
        | some (some v) => .val (okV ok v true)
        | some none => (match zeroPQ R et with
          | some z => .val (okV ok z false)
          | none => .fail)
        | none => .fail)
      | .map none => (match zeroPQ R et with
        | some z => .val (okV ok z false)
        | none => .fail)
      | _ => .fail)
    | none => .fail)
  | _ => .fail

def updPQ (R : Rt) (t : TypeId) (x k v : Value) : Prog := match R.und t with
  | some (.map kt _) => (match keyKindQ R kt with
    | some d => (match x with
      | .map (some b) => .mrd b fun cl l => (match entL d k v cl l with
        | some (m, c) => .mwr b c m .skip
        | none => .fail)
      | _ => .fail)
    | none => .fail)
  | _ => .fail

def mkIPQ (R : Rt) (t : TypeId) (v : Value) : Prog := match R.und t with
  | some (.interface _) => .fail
  | some _ => .val (.iface t v)
  | none => .fail

def assertPQ (R : Rt) (x : Value) (t : TypeId) (ok : Bool) : Prog := match R.und t with
  | some (.interface _) => .fail
  | some _ => (match x with
    | .iface u v => (match Nat.beq u t with
      | true => .val (okV ok v true)
      | false => (match ok, zeroPQ R t with
        | true, some z => .val (okV true z false)
        | _, _ => .fail))
    | .nilIface => (match ok, zeroPQ R t with
      | true, some z => .val (okV true z false)
      | _, _ => .fail)
    | _ => .fail)
  | none => .fail

def methPQ (R : Rt) (t : TypeId) (name : String) : Option (FuncId × Option TypeId) := match R.info t with
  | some i => (match i.methods.toList.find? (·.name == name) with
    | some m => (match m.path.toList, m.func, R.und t with
      | [], some (f, false), some (.pointer el) => some (f, some el)
      | [], some (f, false), some _ => some (f, none)
      | [], some (f, true), some (.pointer _) => some (f, none)
      | _, _, _ => none)
    | none => none)
  | none => none

def nilBQ (R : Rt) (t : TypeId) (x y : Value) : Option Bool := match x, y with
  | .pointer (some _), .pointer none => (match R.und t with | some (.pointer _) => some false | _ => none)
  | .pointer none, .pointer (some _) => (match R.und t with | some (.pointer _) => some false | _ => none)
  | .slice (some _) _ _, .slice none _ _ => (match R.und t with | some (.slice _) => some false | _ => none)
  | .slice none _ _, .slice (some _) _ _ => (match R.und t with | some (.slice _) => some false | _ => none)
  | .func _ _ _, .nilFunc => (match R.und t with | some (.func _ _ _) => some false | _ => none)
  | .nilFunc, .func _ _ _ => (match R.und t with | some (.func _ _ _) => some false | _ => none)
  | .map (some _), .map none => (match R.und t with | some (.map _ _) => some false | _ => none)
  | .map none, .map (some _) => (match R.und t with | some (.map _ _) => some false | _ => none)
  | .iface _ _, .nilIface => (match R.und t with | some (.interface _) => some false | _ => none)
  | .nilIface, .iface _ _ => (match R.und t with | some (.interface _) => some false | _ => none)
  | _, _ => none

def bytesPQ (R : Rt) (src dst : TypeId) (x : Value) : Prog := match x, R.und src, R.und dst with
  | .slice (some ⟨b, o, none⟩) n _, some (.slice e), some .string => match R.und e with
    | some (.int .u8) => rdN b n o [] fun l => match bytesOf l with
      | some s => .val (.string ⟨⟨s⟩⟩)
      | none => .fail
    | _ => .fail
  | _, _, _ => .fail

def idxPQ (R : Rt) (t : TypeId) (s : ByteArray) (n : Int) : Prog := match R.und t with
  | some .string => if 0 ≤ n then (match s.data.toList[n.toNat]? with
    | some b => .val (.int .u8 b.toNat)
    | none => .fail) else .fail
  | _ => .fail

def cvtPQ (R : Rt) (src dst : TypeId) (n : Int) : Prog := match R.und src, R.und dst with
  | some _, some (.int k) => .val (.int k (k.wrap n))
  | _, _ => .fail

def callPQ (P : Program) (R : Rt) (o : Oper) (c : Call) (ev : Operand → Value) : Prog :=
  match c.callee with
  | .value f => match ev f with
    | .func (.func g) ⟨fs⟩ ⟨cs⟩ => match R.fn g with
      | some fn => if fn.body.isSome then .enter g (fs ++ c.args.toList.map ev ++ cs) else if isEsc fn then (match fs ++ c.args.toList.map ev ++ cs with
        | [x] => .val x
        | _ => .fail) else .fail
      | none => .fail
    | _ => .fail
  | .builtin .len => match c.args.toList.map ev, c.argTypes.toList with
    | [.slice (some _) n _], t :: _ => (match R.und t with | some (.slice _) => .val (goInt n) | _ => .fail)
    | [.string s], t :: _ => (match R.und t with | some .string => .val (goInt s.size) | _ => .fail)
    | _, _ => groundP P o ev
  | .builtin .append => match c.args.toList.map ev, c.argTypes.toList with
    | [s, x], [t, u] => if Nat.beq t u then appendPQ R t s x else (match x with
      | .string ⟨⟨str⟩⟩ => appendSPQ R t u s str
      | .int _ i => appendZPQ R t u s i
      | _ => .fail)
    | _, _ => .fail
  | .builtin .unsafeSliceData => match c.args.toList.map ev with
    | [s] => uDataP s
    | _ => .fail
  | .builtin .unsafeString => match c.args.toList.map ev, c.argTypes.toList with
    | [p, n], [t, _] => uStrPQ R t p n
    | _, _ => .fail
  | .builtin .copy => match c.args.toList.map ev, c.argTypes.toList with
    | [d, s], t :: _ => copyPQ R t d s
    | _, _ => .fail
  | .invoke recv name => (match ev recv with
    | .iface t v => (match methPQ R t name with
      | some (g, el) => (match R.fn g with
        | some fn => if fn.body.isSome then (match el with
          | none => .enter g (v :: c.args.toList.map ev)
          | some e => loadPQ R e v fun u => .enter g (u :: c.args.toList.map ev)) else .fail
        | none => .fail)
      | none => .fail)
    | _ => .fail)
  | _ => groundP P o ev

def binPQ (P : Program) (R : Rt) (o : Oper) (op : BinOp) (t : TypeId) (ev : Operand → Value) (a b : Value) : Prog := match a, b with
  | .int k a, .int k' b => match sameK k k' with
    | true => (match intV op k a b with
      | some v => .val v
      | none => groundP P o ev)
    | false => groundP P o ev
  | .string a, .string b => (match strV2 op a b with
    | some v => .val v
    | none => groundP P o ev)
  | .pointer (some a), .pointer (some b) => ptrBQ R t op a b
  | a, b => (match nilBQ R t a b with
    | some r => (match op with
      | .eql => .val (.bool r)
      | .neq => .val (.bool (!r))
      | _ => .fail)
    | none => groundP P o ev)

def sstPQ (R : Rt) (t : TypeId) (s : ByteArray) (lo hi : Option Value) : Prog := match R.und t with
  | some .string => match boundOf lo 0, boundOf hi s.data.toList.length with
    | some l, some h => if Nat.ble l h && Nat.ble h s.data.toList.length then .val (.string ⟨⟨(s.data.toList.drop l).take (h - l)⟩⟩) else .fail
    | _, _ => .fail
  | _ => .fail

def opFQ (P : Program) (R : Rt) (o : Oper) (ev : Operand → Value) : Prog :=
  match o.op with
  | .move x => .val (ev x)
  | .assign x => .val (ev x)
  | .pick c a b => (match ev c with
    | .bool true => .val (ev a)
    | .bool false => .val (ev b)
    | _ => .fail)
  | .alloc t => allocPQ R t
  | .box t x => newP t (ev x)
  | .load t a => loadPQ R t (ev a) .val
  | .store t a x => storePQ R t (ev a) (ev x)
  | .fieldAddr s x f => fieldPQ R s (ev x) f
  | .indexAddr t x i => ixPQ R t (ev x) (ev i)
  | .field t x f => fieldVPQ R t (ev x) f
  | .extract x i => extractP (ev x) i
  | .makeSlice t l c => mkPQ R t (ev l) (ev c)
  | .build t parts => buildPQ R t (partsOf ev parts)
  | .buildSlice t n parts => buildSPQ R t n (partsOf ev parts)
  | .makeFunc (.func f) first captured => .val (.func (.func f) ⟨first.toList.map ev⟩ ⟨captured.toList.map ev⟩)
  | .nilCheck x => (match ev x with
    | .pointer (some a) => .val (.pointer (some a))
    | .func (.func f) l m => .val (.func (.func f) l m)
    | _ => .fail)
  | .slice t x lo hi none => (match ev x with
    | .slice (some a) n k => slPQ R t (.slice (some a) n k) (lo.map ev) (hi.map ev)
    | .string s => sstPQ R t s (lo.map ev) (hi.map ev)
    | .pointer (some a) => slAPQ R t (.pointer (some a)) (lo.map ev) (hi.map ev)
    | _ => groundP P o ev)
  | .binOp op t x y _ => binPQ P R o op t ev (ev x) (ev y)
  | .unOp .not _ x => (match ev x with
    | .bool b => .val (.bool (!b))
    | _ => groundP P o ev)
  | .convert s d x => (match ev x with
    | .slice (some a) n k => bytesPQ R s d (.slice (some a) n k)
    | .int _ n => cvtPQ R s d n
    | .pointer (some a) => uptrPQ P R s d (.pointer (some a))
    | _ => groundP P o ev)
  | .index t x i => (match ev x, ev i with
    | .string s, .int _ n => idxPQ R t s n
    | _, _ => groundP P o ev)
  | .call c => callPQ P R o c ev
  | .lookup t x k ok => lookPQ R t (ev x) (ev k) ok
  | .mapUpdate t m k x => updPQ R t (ev m) (ev k) (ev x)
  | .insert t m k x => updPQ R t (ev m) (ev k) (ev x)
  | .makeMap t r => mkMP t (r.map ev)
  | .makeInterface t x => mkIPQ R t (ev x)
  | .typeAssert x _ t ok => assertPQ R (ev x) t ok
  | _ => groundP P o ev

theorem resPQ_eq {P : Program} {R : Rt} (h : R.Ok P) : ∀ (l : List ResultVar) (tm : Tmp → Value) (acc : List Value) (k : List Value → Prog), resPQ R tm l acc k = resP P tm l acc k := by
  obtain ⟨info, und, fn⟩ := R
  obtain ⟨h1, h2, h3⟩ := h
  simp only at h1 h2 h3
  subst h1 h2 h3
  intro l
  induction l with
  | nil => intro tm acc k; rfl
  | cons x l ih =>
    intro tm acc k
    cases x with
    | tmp t => simp only [resPQ, resP]; exact ih _ _ _
    | cell a t =>
      simp only [resPQ, resP]
      have : (fun v => resPQ ⟨P.info?, P.underlying, fun f => P.funcs[f]?⟩ tm l (v :: acc) k) = fun v => resP P tm l (v :: acc) k := funext fun v => ih _ _ _
      rw [this]
      rfl
theorem opFQ_eq {P : Program} {R : Rt} (h : R.Ok P) : opFQ P R = opF P := by
  obtain ⟨info, und, fn⟩ := R
  obtain ⟨h1, h2, h3⟩ := h
  simp only at h1 h2 h3
  subst h1 h2 h3
  rfl

/-- Tables as trees. -/
def tabs (P : Program) (ty : Tr TypeInfo) (fs : Tr Func) (nt nf : Nat) : Rt :=
  let info := fun t => match Nat.blt t nt with
    | true => Tr.get 30 ty t
    | false => P.info? t
  ⟨info, fun t => match info t with
    | some { desc := .named _ u, .. } => (info u).map (·.desc)
    | some i => some i.desc
    | none => none, fun f => match Nat.blt f nf with
    | true => Tr.get 30 fs f
    | false => P.funcs[f]?⟩
theorem tabs_ok {P : Program} {nt nf : Nat} (h1 : P.types.toList.length = nt) (h2 : P.funcs.toList.length = nf) (h3 : nt < 1000000) (h4 : nf < 1000000) : (tabs P (Tr.row .e 0 P.types.toList) (Tr.row .e 0 P.funcs.toList) nt nf).Ok P := by
  have hi : (tabs P (Tr.row .e 0 P.types.toList) (Tr.row .e 0 P.funcs.toList) nt nf).info = P.info? := by
    funext t
    simp only [tabs]
    cases hb : Nat.blt t nt with
    | false => rfl
    | true =>
      have hlt : t < nt := by simpa [Nat.blt_eq] using hb
      simp only
      rw [Tr.get_row _ _ _ _ (by omega), if_neg (Nat.not_lt_zero _), if_pos (by rw [Nat.zero_add, h1]; exact hlt), Nat.sub_zero]
      have hs : t < P.types.size := by rw [← Array.length_toList, h1]; exact hlt
      simp [Tables.info?, hs]
  refine ⟨hi, ?_, ?_⟩
  · funext t
    have : (tabs P (Tr.row .e 0 P.types.toList) (Tr.row .e 0 P.funcs.toList) nt nf).und t = (match (tabs P (Tr.row .e 0 P.types.toList) (Tr.row .e 0 P.funcs.toList) nt nf).info t with
      | some { desc := .named _ u, .. } => ((tabs P (Tr.row .e 0 P.types.toList) (Tr.row .e 0 P.funcs.toList) nt nf).info u).map (·.desc)
      | some i => some i.desc
      | none => none) := rfl
    rw [this, hi]
    rfl
  · funext f
    simp only [tabs]
    cases hb : Nat.blt f nf with
    | false => rfl
    | true =>
      have hlt : f < nf := by simpa [Nat.blt_eq] using hb
      simp only
      rw [Tr.get_row _ _ _ _ (by omega), if_neg (Nat.not_lt_zero _), if_pos (by rw [Nat.zero_add, h2]; exact hlt), Nat.sub_zero]
      have hs : f < P.funcs.size := by rw [← Array.length_toList, h2]; exact hlt
      simp [hs]

end
end Go.Proofs.YtjeplkbdgphfoaaDoor
