// Package exact computes without rounding: integers of any size, fractions, square roots that are
// compared, systems of linear equations, leading minors, and linear programs with certificates.
// It is chapter 1 of the document.
package exact
