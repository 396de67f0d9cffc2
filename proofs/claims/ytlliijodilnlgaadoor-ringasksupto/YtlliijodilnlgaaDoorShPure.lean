/- The plain mathematics of package sha: what each function reckons, on lists of bytes and words. -/
namespace Go.Proofs.YtlliijodilnlgaaDoor

/-- x turned right by n. -/
def rotr (x : BitVec 32) (n : Nat) : BitVec 32 := (x >>> n) ||| (x <<< (32 - n))
def sig0 (x : BitVec 32) : BitVec 32 := rotr x 7 ^^^ rotr x 18 ^^^ (x >>> 3)
def sig1 (x : BitVec 32) : BitVec 32 := rotr x 17 ^^^ rotr x 19 ^^^ (x >>> 10)
def Sig0 (x : BitVec 32) : BitVec 32 := rotr x 2 ^^^ rotr x 13 ^^^ rotr x 22
def Sig1 (x : BitVec 32) : BitVec 32 := rotr x 6 ^^^ rotr x 11 ^^^ rotr x 25
def ch (x y z : BitVec 32) : BitVec 32 := (x &&& y) ^^^ (~~~x &&& z)
def maj (x y z : BitVec 32) : BitVec 32 := (x &&& y) ^^^ (x &&& z) ^^^ (y &&& z)

def bw (b : UInt8) : BitVec 32 := BitVec.ofNat 32 b.toNat

/-- The words behind i bytes of the block were taken in. -/
def ex1 (blk : List UInt8) : Nat → List (BitVec 32)
  | 0 => List.replicate 64 0
  | i + 1 => (ex1 blk i).set (i / 4) (((ex1 blk i).getD (i / 4) 0 <<< 8) ||| bw (blk.getD i 0))
/-- One more word. -/
def exStep (w : List (BitVec 32)) (j : Nat) : List (BitVec 32) :=
  w.set (16 + j) (sig1 (w.getD (14 + j) 0) + w.getD (9 + j) 0 + sig0 (w.getD (1 + j) 0) + w.getD j 0)
def ex2 (blk : List UInt8) : Nat → List (BitVec 32)
  | 0 => ex1 blk 64
  | j + 1 => exStep (ex2 blk j) j
/-- The 64 words of a block. -/
def words (blk : List UInt8) : List (BitVec 32) := ex2 blk 48

theorem ex1_length (blk : List UInt8) : ∀ i, (ex1 blk i).length = 64
  | 0 => by simp [ex1]
  | i + 1 => by simp [ex1, ex1_length blk i]
theorem ex2_length (blk : List UInt8) : ∀ i, (ex2 blk i).length = 64
  | 0 => ex1_length blk 64
  | i + 1 => by simp [ex2, exStep, ex2_length blk i]
theorem words_length (blk : List UInt8) : (words blk).length = 64 := ex2_length blk 48

def Ks : List (BitVec 32) := [
  0x428a2f98, 0x71374491, 0xb5c0fbcf, 0xe9b5dba5, 0x3956c25b, 0x59f111f1, 0x923f82a4, 0xab1c5ed5,
  0xd807aa98, 0x12835b01, 0x243185be, 0x550c7dc3, 0x72be5d74, 0x80deb1fe, 0x9bdc06a7, 0xc19bf174,
  0xe49b69c1, 0xefbe4786, 0x0fc19dc6, 0x240ca1cc, 0x2de92c6f, 0x4a7484aa, 0x5cb0a9dc, 0x76f988da,
  0x983e5152, 0xa831c66d, 0xb00327c8, 0xbf597fc7, 0xc6e00bf3, 0xd5a79147, 0x06ca6351, 0x14292967,
  0x27b70a85, 0x2e1b2138, 0x4d2c6dfc, 0x53380d13, 0x650a7354, 0x766a0abb, 0x81c2c92e, 0x92722c85,
  0xa2bfe8a1, 0xa81a664b, 0xc24b8b70, 0xc76c51a3, 0xd192e819, 0xd6990624, 0xf40e3585, 0x106aa070,
  0x19a4c116, 0x1e376c08, 0x2748774c, 0x34b0bcb5, 0x391c0cb3, 0x4ed8aa4a, 0x5b9cca4f, 0x682e6ff3,
  0x748f82ee, 0x78a5636f, 0x84c87814, 0x8cc70208, 0x90befffa, 0xa4506ceb, 0xbef9a3f7, 0xc67178f2]
def Hs : List (BitVec 32) := [0x6a09e667, 0xbb67ae85, 0x3c6ef372, 0xa54ff53a, 0x510e527f, 0x9b05688c, 0x1f83d9ab, 0x5be0cd19]

/-- The eight variables. -/
structure Eight where
  a : BitVec 32
  b : BitVec 32
  c : BitVec 32
  d : BitVec 32
  e : BitVec 32
  f : BitVec 32
  g : BitVec 32
  h : BitVec 32

def Eight.of (l : List (BitVec 32)) : Eight := ⟨l.getD 0 0, l.getD 1 0, l.getD 2 0, l.getD 3 0, l.getD 4 0, l.getD 5 0, l.getD 6 0, l.getD 7 0⟩
def Eight.list (s : Eight) : List (BitVec 32) := [s.a, s.b, s.c, s.d, s.e, s.f, s.g, s.h]
def t1 (s : Eight) (k w : BitVec 32) : BitVec 32 := s.h + Sig1 s.e + ch s.e s.f s.g + k + w
def t2 (s : Eight) : BitVec 32 := Sig0 s.a + maj s.a s.b s.c
def step (s : Eight) (k w : BitVec 32) : Eight := ⟨t1 s k w + t2 s, s.a, s.b, s.c, s.d + t1 s k w, s.e, s.f, s.g⟩
def runs (ws : List (BitVec 32)) (s : Eight) : Nat → Eight
  | 0 => s
  | t + 1 => step (runs ws s t) (Ks.getD t 0) (ws.getD t 0)
/-- The state behind a block. -/
def mixL (st : List (BitVec 32)) (blk : List UInt8) : List (BitVec 32) :=
  List.zipWith (· + ·) st (runs (words blk) (Eight.of st) 64).list

/-- A word's bytes. -/
def wb (x : BitVec 32) : List UInt8 := [UInt8.ofNat (x.toNat / 16777216), UInt8.ofNat (x.toNat / 65536), UInt8.ofNat (x.toNat / 256), UInt8.ofNat x.toNat]
def spreadL (st : List (BitVec 32)) : List UInt8 := st.flatMap wb

theorem runs_list_length (ws : List (BitVec 32)) (s : Eight) (n : Nat) : (runs ws s n).list.length = 8 := rfl
theorem mixL_length (st : List (BitVec 32)) (blk : List UInt8) (h : st.length = 8) : (mixL st blk).length = 8 := by
  simp [mixL, h, runs_list_length]

/-- A hash: how long what was written is, the state, the block that is being filled. -/
structure H where
  len : Nat
  st : List (BitVec 32)
  blk : List UInt8
structure H.Ok (h : H) : Prop where
  st : h.st.length = 8
  blk : h.blk.length = 64

def newL : H := ⟨0, List.replicate 8 0, List.replicate 64 0⟩
theorem newL_ok : newL.Ok := ⟨rfl, rfl⟩
/-- n bytes more lie in the block. -/
def advL (h : H) (n : Nat) : H :=
  if (h.len + n) % 64 = 0 then ⟨h.len + n, mixL (if h.len + n = 64 then Hs else h.st) h.blk, h.blk⟩ else ⟨h.len + n, h.st, h.blk⟩
theorem advL_len (h : H) (n : Nat) : (advL h n).len = h.len + n := by unfold advL; split <;> rfl
theorem advL_blk (h : H) (n : Nat) : (advL h n).blk = h.blk := by unfold advL; split <;> rfl
theorem advL_ok (h : H) (n : Nat) (k : h.Ok) : (advL h n).Ok := by
  refine ⟨?_, by rw [advL_blk]; exact k.blk⟩
  unfold advL
  split
  · refine mixL_length _ _ ?_
    split
    · rfl
    · exact k.st
  · exact k.st
def putL (h : H) (b : UInt8) : H := advL ⟨h.len, h.st, h.blk.set (h.len % 64) b⟩ 1
theorem putL_len (h : H) (b : UInt8) : (putL h b).len = h.len + 1 := advL_len _ _
theorem putL_ok (h : H) (b : UInt8) (k : h.Ok) : (putL h b).Ok := advL_ok _ _ ⟨k.st, by simpa using k.blk⟩
/-- Byte by byte. -/
def putN (h : H) (l : List UInt8) : H := l.foldl putL h
theorem putN_len : ∀ (l : List UInt8) (h : H), (putN h l).len = h.len + l.length
  | [], _ => rfl
  | b :: l, h => by rw [putN, List.foldl_cons, ← putN, putN_len l, putL_len]; simp; omega
theorem putN_ok : ∀ (l : List UInt8) (h : H), h.Ok → (putN h l).Ok
  | [], _, k => k
  | b :: l, h, k => putN_ok l (putL h b) (putL_ok h b k)
theorem putN_append (h : H) (l r : List UInt8) : putN h (l ++ r) = putN (putN h l) r := List.foldl_append
theorem putN_snoc (h : H) (l : List UInt8) (b : UInt8) : putN h (l ++ [b]) = putL (putN h l) b := by rw [putN_append]; rfl
/-- How many bytes 0 the padding has. -/
def zeros (len : Nat) : Nat := (119 - len % 64) % 64
/-- A number's eight bytes, i of them. -/
def numBytes (n i : Nat) : List UInt8 := (List.range i).map fun j => UInt8.ofNat (n / 2 ^ (56 - 8 * j))
def padding (len : Nat) : List UInt8 := 0x80 :: (List.replicate (zeros len) 0 ++ numBytes (len * 8) 8)
def padL (h : H) : H := putN h (padding h.len)
theorem numBytes_succ (n i : Nat) : numBytes n (i + 1) = numBytes n i ++ [UInt8.ofNat (n / 2 ^ (56 - 8 * i))] := by simp [numBytes, List.range_succ]
theorem padding_length (len : Nat) : (padding len).length = zeros len + 9 := by simp [padding, numBytes]
/-- The hash's sum. -/
def sumL (h : H) : List UInt8 := spreadL (padL h).st
/-- as over blk from o on. -/
def over (blk : List UInt8) (o : Nat) (as : List UInt8) : List UInt8 := blk.take o ++ as ++ blk.drop (o + as.length)
theorem over_length (blk : List UInt8) (o : Nat) (as : List UInt8) (h : o + as.length ≤ blk.length) : (over blk o as).length = blk.length := by
  simp [over]; omega

end Go.Proofs.YtlliijodilnlgaaDoor
