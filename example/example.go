// Package example holds the station of the document's examples, which the layers' tests play by, and lays and draws other ones for them.
package example

// Station has two tracks, T and U, between two points, P and Q. By their names its sections are E 0, F 1, P 2, Q 3, T 4, U 5, V 6, W 7, its signals A 0, B 1, C 2, D 3, G 4, H 5, I 6, J 7.
const Station = `overlap 3000
approach 15000
settle 2
hold 1
section W 9000
section V 8000
point P 5000
section T 7000
section U 7000
point Q 5000
section E 9000
section F 8000
join V.b W.a
join W.b P.t
join P.n T.a
join P.r U.a
join T.b Q.n
join U.b Q.r
join Q.t E.a
join E.b F.a
buffer V.a
buffer F.b
signal A W.b
signal B T.b
signal C U.b
signal D E.a
signal G T.a
signal H U.a
signal I V.b
signal J F.a
`
